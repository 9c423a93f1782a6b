import PyProof.Rows.All
import Wide.All
import OpenK.AllK
import Wide.FinOn
import HandS.Base
import HandS.Call
import HandS.List
import HandS.Exc
import HandS.ExcOwn
import HandS.ClsMeth
import KE.DatumOrd
import HandS.SortKw
import HandS.ForMost
import HandS.Evl
import HandS.ForExc
import HandS.Walk
import HandS.IsInst
import HandS.Codes
import PyProof.FString
import KE.KSuper
import KE.KExcSuper
import KE.OsGo
import HandS.OwnEq
import HandS.Dict
import HandS.DictComp
import HandS.Comp
import PyProof.EqAt
import PyProof.NeKinds
import KE.LtSeq
import KE.LtData
import KE.Datum
import KE.DatumMore
import KE.DatumMoreOrd
import KE.KSortTup
import HandS.SortOrd
import HandS.SortRule
import KE.DataCmp
import KE.KOpsOwn
import HandS.ExcField
import HandS.ExcInit
import HandS.ExcValue
import HandS.ExcIs
import HandS.TryMany
import HandS.DeepEq
import HandS.TupAny
import KE.KExcLine
import KE.RegKSuper
import PySem.Challenge.RW_fullseats_k35_exchanged_neighbours
set_option Elab.async false
set_option linter.all false
set_option maxRecDepth 100000
set_option maxHeartbeats 2000000
/-! A staticmethod that is called off its class. -/
namespace FsR
open PySem PySem.Spec PyProof.Rows L2 ClX
structure SMet (K : PySem.W.Frag) (C : Addr) (mc : Value) (m : Str) (p g : Addr) : Prop where
  at_ : PySem.W.findCls K (.ref C) mc m = some (.get (.builtin "staticmethod.__get__") (.ref p) .none (.ref C))
  rc : ∃ rest, PySem.W.recIn K p "staticmethod" = some (.ref g :: rest)
  kp : PySem.W.keepIn K (.ref g) = true
section
variable {X : Cx} {pins : List (Addr × Obj)} {σ : L2.St} {H : Hp} {s : Shared} {C p g : Addr} {mc : Value} {m : Str} {A : Around} {E : Value → Shared → Prop}
theorem getmethsm_ok {pl : Sem Bool} {Q : Value × List Value → Shared → Prop} (I : Inv X pins σ H s) (r : CRead X.K C mc) (k : SMet X.K C mc m p g)
    (h : ∀ s', Inv X pins σ H s' → Q (.ref g, []) s') : wpAny (model X.prog X.w) A (getMethod (.ref C) m pl) Q E s := by
  obtain ⟨rest, hp⟩ := k.rc
  exact PySem.W.method_cls I.kIn r.ga (PySem.W.cls_bind I.kIn r.rd k.at_ (wpAny_call (PySem.W.sm_get (s := { s with toks := s.toks + 1 }) I.kIn hp (PySem.W.handed_on rfl (h _ (I.tok _))))))
end
/-- C.m(..), e the class at C, m a staticmethod; E: what is wanted of what it raises, at the slots -/
def tStat (C : Addr) (sp : Sp) (E : L2.St → XK) (ta : TE) (t : TA) : TE := fun σ H Q => ta σ H fun x H1 => x = .ref C ∧ t σ H1 fun vs H2 => sp vs H2 Q (E σ)
theorem passesAt_of {CX : CXT} {X : Cx} {E : XK} (h : Passes CX X E) (σ : L2.St) : PassesAt CX X σ E := fun pins H s e s' I c => h pins σ H s e s' I c
section
variable {X : Cx} {CX : CXT} {k : Nat} {C p g : Addr} {mc : Value} {fd : FuncData} {ps : List Str} {sp : Sp} {E : L2.St → XK} {o e : Expr} {es : List Expr} {m : Str} {pos apos : Pos} {ta : TE} {t : TA} {pl : Sem Bool}
theorem pe_stat (he : PE X o ta) (r : CRead X.K C mc) (c : SMet X.K C mc m p g) (F : FnOk X.prog X.w X.K X.mg X.base CX k g fd ps sp) (hr : Room k X.A) (hb : Binds X.K fd ps []) (hx : ∀ σ, PassesAt CX X σ (E σ)) (ha : PA X (e :: es) t)
    (hst : starEach (e :: es) X.env = (false, eval e X.env) :: starEach es X.env := by rfl) (hpl : (backTo pos (starEach es X.env)).any (·.1) = false := by rfl)
    (ht : eval (.Call (.Attribute o m apos) (e :: es) [] pos) X.env = (do
      let ov ← eval o X.env
      standAt apos.atName
      let (f, first) ← holding [ov] (getMethod ov m pl)
      callWith pos f first (backTo pos (starEach (e :: es) X.env)) (backToKw pos (keywordEach [] X.env))) := by rfl) :
    PE X (.Call (.Attribute o m apos) (e :: es) [] pos) (tStat C sp E ta t) := by
  refine ⟨fun pins s σ H Q I h => ?_⟩
  refine PySem.W.methodCall_KW (pl := pl) (thn (he.run pins s σ H _ I h) fun u s1 ⟨x, H1, I1, rx, ex, q⟩ => ?_) ht
  subst ex
  obtain rfl : u = Value.ref C := rx
  refine getmethsm_ok I1 r c fun s2 I2 => ?_
  refine PySem.W.callWith_K (first := []) (h₀ := X.base) I.ok.mod.kin c.kp (thn (ha.run pos pins s2 σ H1 _ I2 q) fun us s3 ⟨vs, H2, I3, rv, q2⟩ => ⟨I3.kIn, ?_⟩) hst hpl
  exact run_fnS F hr hb (hx σ) I3 rv q2
theorem pe_stat0 (he : PE X o ta) (r : CRead X.K C mc) (c : SMet X.K C mc m p g) (F : FnOk X.prog X.w X.K X.mg X.base CX k g fd ps sp) (hr : Room k X.A) (hb : Binds X.K fd ps []) (hx : ∀ σ, PassesAt CX X σ (E σ))
    (ht : eval (.Call (.Attribute o m apos) [] [] pos) X.env = (do
      let ov ← eval o X.env
      standAt apos.atName
      let (f, first) ← holding [ov] (getMethod ov m pl)
      callWith pos f first (backTo pos (starEach [] X.env)) (backToKw pos (keywordEach [] X.env))) := by rfl) :
    PE X (.Call (.Attribute o m apos) [] [] pos) (tStat C sp E ta tNil) := by
  refine ⟨fun pins s σ H Q I h => ?_⟩
  refine PySem.W.methodCall_KW (pl := pl) (thn (he.run pins s σ H _ I h) fun u s1 ⟨x, H1, I1, rx, ex, q⟩ => ?_) ht
  subst ex
  obtain rfl : u = Value.ref C := rx
  refine getmethsm_ok I1 r c fun s2 I2 => ?_
  exact PySem.W.callWith_K0 (first := []) I2.kIn c.kp (run_fnS (us := []) (vs := []) F hr hb (hx σ) I2 .nil q)
end
end FsR

set_option Elab.async false
set_option linter.all false
set_option maxRecDepth 100000
set_option maxHeartbeats 2000000
/-! max(xs, default=d) of a list of ints -/
namespace FsR
open PySem PySem.Spec PyProof.Rows L2
def maxFrom (y : Int) (ys : List Int) : Int := ys.foldl max y
def maxDef (d : Int) : List Int → Int
  | [] => d
  | y :: ys => maxFrom y ys
theorem maxOf_eq : ∀ (ys : List Int) (y : Int), PySem.W.maxOf y ys = maxFrom y ys
  | [], y => rfl
  | z :: zs, y => by
    have e : (if PySem.W.DatumOrd.lt y z = true then z else y) = max y z := by
      show (if decide (y < z) = true then z else y) = max y z
      by_cases h : y < z
      · rw [if_pos (decide_eq_true h)]; omega
      · rw [if_neg (by simpa using h)]; omega
    have ih := maxOf_eq zs (max y z)
    unfold PySem.W.maxOf maxFrom at *
    rw [List.foldl_cons, List.foldl_cons, e]
    exact ih
theorem readsAll_ints {h : Heap} : ∀ {vs : List Value} {ns : List Int}, IntsAre vs ns → ∃ as, ReadsAll h vs (ns.map PySem.W.Datum.toD) as
  | _, _, .nil => ⟨[], .nil⟩
  | _, _, .cons n t r => by
    obtain ⟨as, z⟩ := readsAll_ints (h := h) r
    exact ⟨[] ++ as, .cons (.int n t) z⟩
/-- max(xs, default=d) -/
def rMaxD (K : PySem.W.Frag) : List V → List V → Hp → VK → Prop := fun xs zs H Q => ∃ (a : Addr) (ns : List Int) (d : Int), xs = [V.ref a] ∧ zs = [V.int d] ∧ SqL K H a (ns.map V.int) ∧ Q (.int (maxDef d ns)) H
theorem ck_maxD {X : Cx} (hc : X.calm = true) (hu : X.A.units + 1 + 1 < cLine) : CallRK X (.builtin "max") ["default"] (rMaxD X.K) := by
  intro pins s σ H xs zs us ws Q I r rz h
  obtain ⟨a, ns, d, rfl, rfl, hs, q⟩ := h
  obtain ⟨its, rv, hl, _⟩ := I.list hs
  rw [Vals.ref1 r]
  cases rz with
  | cons rd rn =>
    cases rn
    obtain ⟨t, rfl⟩ := rd
    have hI := rv.ints
    show wpAny (model X.prog X.w) X.A (call (.builtin "max") [.ref a] [(Str.ofString "default", .int d t)]) _ _ _
    refine PySem.W.max_list_datum_default (α := Int) (xs := ns) (I.ok.hd hc) hl.isList (readsAll_ints hI) (by show X.A.units + 1 + 0 < cLine; omega) (fun e h' tk hk => ?_) (fun y ys i v h' tk e hi hv hk => ?_)
    · subst e
      exact ⟨.int d, H, I.kept hk, ⟨t, rfl⟩, q⟩
    · subst e
      obtain ⟨as, z⟩ := hv
      have z' : ∃ t', v = Value.int (PySem.W.maxOf y ys) t' := by
        have z2 : Reads h' v (.int (PySem.W.maxOf y ys)) as := z
        cases z2 with
        | int _ t' => exact ⟨t', rfl⟩
      obtain ⟨t', rfl⟩ := z'
      refine ⟨.int (PySem.W.maxOf y ys), H, I.kept hk, ⟨t', rfl⟩, ?_⟩
      rw [maxOf_eq]
      exact q
end FsR

set_option Elab.async false
set_option linter.all false
set_option maxRecDepth 100000
set_option maxHeartbeats 2000000
namespace Fs
open PySem L2 Evl
/-! ### operands, processes, offers -/
inductive Opd where
  | int (i : Int)
  | nm (z : Str)
def Opd.v : Opd → V
  | .int i => .int i
  | .nm z => .str z
mutual
inductive Pr where
  | choice (os : Ofs)
  | new (n : Str) (k : Int) (r : Pr)
  | cond (l r : Opd) (y n : Pr)
  | call (n : Str) (ops : List Opd)
inductive Ofs where
  | nil
  | cons (c : Str) (seat seats : Int) (op : Opd) (names : List Str) (rest : Pr) (os : Ofs)
end
mutual
def Pr.depth : Pr → Int
  | .choice os => 1 + os.depth
  | .new _ _ r => 1 + r.depth
  | .cond _ _ y n => 1 + max y.depth n.depth
  | .call _ _ => 1
def Ofs.depth : Ofs → Int
  | .nil => 0
  | .cons _ _ _ _ _ r os => max r.depth os.depth
end
def Ofs.len : Ofs → Nat
  | .nil => 0
  | .cons _ _ _ _ _ _ os => os.len + 1
mutual
def Pr.size : Pr → Int
  | .choice os => max 1 (os.len : Int) + os.sum
  | .new _ _ r => 1 + r.size
  | .cond _ _ y n => 1 + (y.size + n.size)
  | .call _ _ => 1
def Ofs.sum : Ofs → Int
  | .nil => 0
  | .cons _ _ _ _ _ r os => r.size + os.sum
end
def Pr.kind : Pr → Str
  | .choice _ => "choice"
  | .new _ _ _ => "new"
  | .cond _ _ _ _ => "if"
  | .call _ _ => "call"
/-- the attributes, in the order in which __init__ stores them -/
def pFlds (k : Str) (t : Addr) (d z : Int) : List (Str × V) := putF "size" (.int z) (putF "depth" (.int d) (putF "parts" (.ref t) (putF "kind" (.str k) [])))
theorem n1 : ¬ (("kind" : Str) = "parts") := by decide +kernel
theorem n2 : ¬ (("kind" : Str) = "depth") := by decide +kernel
theorem n3 : ¬ (("kind" : Str) = "size") := by decide +kernel
theorem n4 : ¬ (("parts" : Str) = "depth") := by decide +kernel
theorem n5 : ¬ (("parts" : Str) = "size") := by decide +kernel
theorem n6 : ¬ (("depth" : Str) = "size") := by decide +kernel
theorem pf_kind {k : Str} {t : Addr} {d z : Int} : (pFlds k t d z).lookup ("kind" : Str) = some (.str k) := by
  unfold pFlds
  rw [lookup_putF, if_neg n3, lookup_putF, if_neg n2, lookup_putF, if_neg n1, lookup_putF, if_pos rfl]
theorem pf_parts {k : Str} {t : Addr} {d z : Int} : (pFlds k t d z).lookup ("parts" : Str) = some (.ref t) := by
  unfold pFlds
  rw [lookup_putF, if_neg n5, lookup_putF, if_neg n4, lookup_putF, if_pos rfl]
theorem pf_depth {k : Str} {t : Addr} {d z : Int} : (pFlds k t d z).lookup ("depth" : Str) = some (.int d) := by
  unfold pFlds
  rw [lookup_putF, if_neg n6, lookup_putF, if_pos rfl]
theorem pf_size {k : Str} {t : Addr} {d z : Int} : (pFlds k t d z).lookup ("size" : Str) = some (.int z) := by
  unfold pFlds
  rw [lookup_putF, if_pos rfl]
/-- an instance of the class at C with these parts -/
def InsAt (C : Addr) (H : Hp) (a : Addr) (k : Str) (t : Addr) (d z : Int) : Prop := ∃ dx, H a = some (.ins C dx (pFlds k t d z))
mutual
/-- at a stands the process p -/
def PrAt (C : Addr) (H : Hp) (a : Addr) : Pr → Prop
  | .choice os => ∃ t ps, InsAt C H a "choice" t (1 + os.depth) (max 1 (os.len : Int) + os.sum) ∧ H t = some (.tup ps) ∧ OfsAt C H ps os
  | .new n k r => ∃ t b, InsAt C H a "new" t (1 + r.depth) (1 + r.size) ∧ H t = some (.tup [.str n, .int k, .ref b]) ∧ PrAt C H b r
  | .cond l r y n => ∃ t b c, InsAt C H a "if" t (1 + max y.depth n.depth) (1 + (y.size + n.size)) ∧ H t = some (.tup [l.v, r.v, .ref b, .ref c]) ∧ PrAt C H b y ∧ PrAt C H c n
  | .call n ops => ∃ t u, InsAt C H a "call" t 1 1 ∧ H t = some (.tup [.str n, .ref u]) ∧ H u = some (.tup (ops.map Opd.v))
def OfsAt (C : Addr) (H : Hp) (ps : List V) : Ofs → Prop
  | .nil => ps = []
  | .cons c s m op ns r os => ∃ o u b qs, ps = .ref o :: qs ∧ H o = some (.tup [.str c, .int s, .int m, op.v, .ref u, .ref b]) ∧ H u = some (.tup (ns.map V.str)) ∧ PrAt C H b r ∧ OfsAt C H qs os
end
theorem InsAt.ex {C : Addr} {H H' : Hp} {a : Addr} {k : Str} {t : Addr} {d z : Int} (e : Ex H H') (h : InsAt C H a k t d z) : InsAt C H' a k t d z := by
  obtain ⟨dx, h⟩ := h
  exact ⟨dx, e _ _ h⟩
mutual
theorem PrAt.ex {C : Addr} {H H' : Hp} (e : Ex H H') : ∀ {p : Pr} {a : Addr}, PrAt C H a p → PrAt C H' a p
  | .choice os, a, h => by
    unfold PrAt at h ⊢
    obtain ⟨t, ps, h1, h2, h3⟩ := h
    exact ⟨t, ps, h1.ex e, e _ _ h2, OfsAt.ex e h3⟩
  | .new n k r, a, h => by
    unfold PrAt at h ⊢
    obtain ⟨t, b, h1, h2, h3⟩ := h
    exact ⟨t, b, h1.ex e, e _ _ h2, PrAt.ex e h3⟩
  | .cond l r y n, a, h => by
    unfold PrAt at h ⊢
    obtain ⟨t, b, c, h1, h2, h3, h4⟩ := h
    exact ⟨t, b, c, h1.ex e, e _ _ h2, PrAt.ex e h3, PrAt.ex e h4⟩
  | .call n ops, a, h => by
    unfold PrAt at h ⊢
    obtain ⟨t, u, h1, h2, h3⟩ := h
    exact ⟨t, u, h1.ex e, e _ _ h2, e _ _ h3⟩
theorem OfsAt.ex {C : Addr} {H H' : Hp} (e : Ex H H') : ∀ {os : Ofs} {ps : List V}, OfsAt C H ps os → OfsAt C H' ps os
  | .nil, ps, h => by
    unfold OfsAt at h ⊢
    exact h
  | .cons c s m op ns r os, ps, h => by
    unfold OfsAt at h ⊢
    obtain ⟨o, u, b, qs, h1, h2, h3, h4, h5⟩ := h
    exact ⟨o, u, b, qs, h1, e _ _ h2, e _ _ h3, PrAt.ex e h4, OfsAt.ex e h5⟩
end
/-- whatever the process: its instance -/
theorem PrAt.ins {C : Addr} {H : Hp} {p : Pr} {a : Addr} (h : PrAt C H a p) : ∃ t ps, InsAt C H a p.kind t p.depth p.size ∧ H t = some (.tup ps) := by
  cases p with
  | choice os =>
    unfold PrAt at h
    obtain ⟨t, ps, h1, h2, _⟩ := h
    exact ⟨t, ps, by unfold Pr.kind Pr.depth Pr.size; exact h1, h2⟩
  | new n k r =>
    unfold PrAt at h
    obtain ⟨t, b, h1, h2, _⟩ := h
    exact ⟨t, _, by unfold Pr.kind Pr.depth Pr.size; exact h1, h2⟩
  | cond l r y n =>
    unfold PrAt at h
    obtain ⟨t, b, c, h1, h2, _⟩ := h
    exact ⟨t, _, by unfold Pr.kind Pr.depth Pr.size; exact h1, h2⟩
  | call n ops =>
    unfold PrAt at h
    obtain ⟨t, u, h1, h2, _⟩ := h
    exact ⟨t, _, by unfold Pr.kind Pr.depth Pr.size; exact h1, h2⟩
end Fs

set_option Elab.async false
set_option linter.all false
set_option maxRecDepth 100000
set_option maxHeartbeats 2000000
/-! further Ev lemmas -/
namespace FsE
open PySem L2 Evl
section
variable {K : PySem.W.Frag} {σ : L2.St} {H : Hp} {ta tb tc te : TE} {x y z : V}
theorem ev_chain {r r' : R2} {a b : Bool} (ha : Ev ta σ H x) (hb : Ev tb σ H y) (h1 : RV r x y H (.bl a)) (hc : a = true → Ev tc σ H z) (h2 : a = true → RV r' y z H (.bl b)) : Ev (tChain r r' ta tb tc) σ H (.bl (a && b)) := fun H1 e Q q =>
  ha H1 e _ fun H2 e2 => hb H2 (e.trans e2) _ fun H3 e3 => h1 H3 ((e.trans e2).trans e3) _ fun H4 e4 => ⟨a, rfl, by
    cases a with
    | true =>
      show tc σ H4 _
      exact hc rfl H4 (((e.trans e2).trans e3).trans e4) _ fun H5 e5 => h2 rfl H5 ((((e.trans e2).trans e3).trans e4).trans e5) Q fun H6 e6 => q H6 ((((e2.trans e3).trans e4).trans e5).trans e6)
    | false =>
      show Q (.bl false) H4
      exact q H4 ((e2.trans e3).trans e4)⟩
theorem rc_isi {t T : String} {b : Bool} (ht : ∀ H1, Ex H H1 → TyX K H1 x (.type t)) (hk : kitB t T = some b) : RC (rIsi K) [x, .ty T] H (.bl b) := fun H1 e Q q =>
  ⟨x, .ty T, .type t, .type T, b, rfl, .ty T, ht H1 e, kit_ty hk, q H1 (Ex.refl H1)⟩
theorem rc_isStr {z : Str} {T : String} {b : Bool} (hk : kitB "str" T = some b) : RC (rIsi K) [.str z, .ty T] H (.bl b) := rc_isi (fun _ _ => .base (.str z)) hk
theorem rc_isInt {i : Int} {T : String} {b : Bool} (hk : kitB "int" T = some b) : RC (rIsi K) [.int i, .ty T] H (.bl b) := rc_isi (fun _ _ => .base (.int i)) hk
/-- len of a text -/
theorem rc_lenS {z : Str} (hz : z.length ≤ sizeLine) : RC (fun xs H Q => ∃ a, xs = [.str a] ∧ a.length ≤ sizeLine ∧ Q (.int (a.length : Nat)) H) [.str z] H (.int (z.length : Nat)) := fun H1 _ _ q => ⟨z, rfl, hz, q H1 (Ex.refl H1)⟩
theorem rv_inSign {c : Nat} {z : Str} : RV (fun x y H Q => ∃ (c : Nat) (z : Str), x = .str ⟨#[c]⟩ ∧ y = .str z ∧ Q (.bl (decide (c ∈ z.cps.toList))) H) (.str ⟨#[c]⟩) (.str z) H (.bl (decide (c ∈ z.cps.toList))) := fun H1 _ _ q => ⟨c, z, rfl, rfl, q H1 (Ex.refl H1)⟩
theorem rv_niSign {c : Nat} {z : Str} : RV (fun x y H Q => ∃ (c : Nat) (z : Str), x = .str ⟨#[c]⟩ ∧ y = .str z ∧ Q (.bl (!decide (c ∈ z.cps.toList))) H) (.str ⟨#[c]⟩) (.str z) H (.bl (!decide (c ∈ z.cps.toList))) := fun H1 _ _ q => ⟨c, z, rfl, rfl, q H1 (Ex.refl H1)⟩
/-- a comprehension over a text -/
theorem el_lcS {z : Str} {tl : TE} {j : Nat} {vs : List Nat} {t : TT} (f : Nat → Bool) (v : Nat → V) (h : Ev tl σ H (.str z)) (hz : z.cps.size ≤ 40000) (hw : ∀ x, wipe ((wipe σ vs).set j (some x)) vs = wipe σ vs)
    (ht : ∀ (i : Nat) (c : Nat) H1, Ex H H1 → z.cps[i]? = some c → EvT t ((wipe σ vs).set j (some (.str ⟨#[c]⟩))) H1 (f i)) (he : ∀ (i : Nat) (c : Nat) H1, Ex H H1 → z.cps[i]? = some c → f i = true → Ev te ((wipe σ vs).set j (some (.str ⟨#[c]⟩))) H1 (v i)) :
    EvL (tLc (iStr tl) (gName j) t te vs) σ H (given z.cps.size f v) := fun H0 e Q q => h H0 e _ fun H1 e1 => ⟨z, rfl, fun Dl hD =>
  lc_it walk_str (Cw H1 f v Dl) ⟨hD, Ex.new hD, upd_same⟩ (fun _ _ _ _ => trivial) (fun i x H' H2 hi p y => by
    obtain ⟨rfl, c, hc, rfl⟩ := y
    exact ⟨hw _, cw_turn p (by omega) (ht i c H1 (e.trans e1) hc) (fun hf => he i c H1 (e.trans e1) hc hf)⟩)
    (fun H' p => q Dl H' (fresh_back e1 p.1) (e1.trans p.2.1) p.2.2)⟩
/-- all of a new list of bools -/
theorem ev_all {bs : List Bool} (h : EvL te σ H (bs.map V.bl)) : Ev (tCB (rAll K) (tCons te tNil)) σ H (.bl (bs.all id)) := fun H1 e Q q =>
  h H1 e _ fun p H2 _ e2 hp => ⟨p, bs, rfl, sq_of hp, q H2 e2⟩
/-- given, no test -/
theorem given_all {n : Nat} {v : Nat → V} : given n (fun _ => true) v = (List.range n).map v := by
  unfold given
  rw [List.filter_eq_self.mpr (fun _ _ => rfl)]
theorem et_nil : EvT tYes σ H true := fun H1 _ _ q => q H1 (Ex.refl H1)
theorem range_map {α : Type} (xs : List α) (d : α) (v : α → V) : (List.range xs.length).map (fun i => v (xs.getD i d)) = xs.map v := by
  refine List.ext_getElem? fun i => ?_
  rw [List.getElem?_map, List.getElem?_map]
  by_cases hi : i < xs.length
  · rw [List.getElem?_range hi, List.getElem?_eq_getElem hi]
    show some (v (xs.getD i d)) = some (v xs[i])
    rw [List.getD_eq_getElem?_getD, List.getElem?_eq_getElem hi]
    rfl
  · rw [List.getElem?_eq_none (by rw [List.length_range]; omega), List.getElem?_eq_none (by omega)]
    rfl
/-- [e for c in text] -/
theorem el_lcSm {z : Str} {tl : TE} {j : Nat} {vs : List Nat} (v : Nat → V) (h : Ev tl σ H (.str z)) (hz : z.length ≤ 40000) (hw : ∀ x, wipe ((wipe σ vs).set j (some x)) vs = wipe σ vs)
    (he : ∀ (c : Nat) H1, Ex H H1 → c ∈ z.cps.toList → Ev te ((wipe σ vs).set j (some (.str ⟨#[c]⟩))) H1 (v c)) : EvL (tLc (iStr tl) (gName j) tYes te vs) σ H (z.cps.toList.map v) := by
  have g := el_lcS (te := te) (j := j) (vs := vs) (t := tYes) (fun _ => true) (fun i => v (z.cps.toList.getD i 0)) h hz hw (fun _ _ _ _ _ => et_nil) (fun i c H3 e hc _ => by
    have e1 : z.cps.toList.getD i 0 = c := by
      rw [List.getD_eq_getElem?_getD, Array.getElem?_toList, hc]
      rfl
    rw [e1]
    exact he c H3 e (by rw [List.mem_iff_getElem?]; exact ⟨i, by rw [Array.getElem?_toList, hc]⟩))
  rw [given_all] at g
  have e := range_map z.cps.toList 0 v
  rw [Array.length_toList] at e
  rw [e] at g
  exact g
/-- [e for x in list] -/
theorem el_lcLm {a : Addr} {xs : List V} {tl : TE} {j : Nat} {vs : List Nat} (v : V → V) (h : Ev tl σ H (.ref a)) (hx : SqL K H a xs) (hz : xs.length ≤ 40000) (hw : ∀ x, wipe ((wipe σ vs).set j (some x)) vs = wipe σ vs)
    (he : ∀ (x : V) H1, Ex H H1 → x ∈ xs → Ev te ((wipe σ vs).set j (some x)) H1 (v x)) : EvL (tLc (iList K tl) (gName j) tYes te vs) σ H (xs.map v) := by
  have g := el_lcL (K := K) (te := te) (j := j) (vs := vs) (t := tYes) (fun _ => true) (fun i => v (xs.getD i .non)) h hx hz hw (fun _ _ _ _ _ => et_nil) (fun i x H3 e hc _ => by
    have e1 : xs.getD i .non = x := by
      rw [List.getD_eq_getElem?_getD, hc]
      rfl
    rw [e1]
    exact he x H3 e (List.mem_iff_getElem?.mpr ⟨i, hc⟩))
  rw [given_all, range_map xs .non v] at g
  exact g
/-- [e for x in (a new list)] -/
theorem el_lcNLm {xs : List V} {tl : TE} {j : Nat} {vs : List Nat} (v : V → V) (h : EvL tl σ H xs) (hz : xs.length ≤ 40000) (hw : ∀ x, wipe ((wipe σ vs).set j (some x)) vs = wipe σ vs)
    (he : ∀ (x : V) H1, Ex H H1 → x ∈ xs → Ev te ((wipe σ vs).set j (some x)) H1 (v x)) : EvL (tLc (iList K tl) (gName j) tYes te vs) σ H (xs.map v) := by
  have g := el_lcNL (K := K) (te := te) (j := j) (vs := vs) (t := tYes) (fun _ => true) (fun i => v (xs.getD i .non)) h hz hw (fun _ _ _ _ _ => et_nil) (fun i x H3 e hc _ => by
    have e1 : xs.getD i .non = x := by
      rw [List.getD_eq_getElem?_getD, hc]
      rfl
    rw [e1]
    exact he x H3 e (List.mem_iff_getElem?.mpr ⟨i, hc⟩))
  rw [given_all, range_map xs .non v] at g
  exact g
/-- [e for k in range(n)] -/
theorem el_lcRm {tn : TA} {j : Nat} {vs : List Nat} {n : Int} (v : Nat → V) (h : EvA tn σ H [.int n]) (hn : 0 ≤ n ∧ n ≤ 40000) (hw : ∀ x, wipe ((wipe σ vs).set j (some x)) vs = wipe σ vs)
    (he : ∀ (i : Nat) H1, Ex H H1 → (i : Int) < n → Ev te ((wipe σ vs).set j (some (.int (i : Int)))) H1 (v i)) : EvL (tLc (iRng1 tn) (gName j) tYes te vs) σ H ((List.range n.toNat).map v) := by
  have g := el_lcR1 (te := te) (j := j) (vs := vs) (t := tYes) (fun _ => true) v h hn hw (fun _ _ _ _ => et_nil) (fun i H1 e hi _ => he i H1 e hi)
  rw [given_all] at g
  exact g
/-- a comprehension over a tuple -/
theorem el_lcT {a : Addr} {xs : List V} {tl : TE} {j : Nat} {vs : List Nat} {t : TT} (f : Nat → Bool) (v : Nat → V) (h : Ev tl σ H (.ref a)) (hx : SqT K H a xs) (hz : xs.length ≤ 40000) (hw : ∀ x, wipe ((wipe σ vs).set j (some x)) vs = wipe σ vs)
    (ht : ∀ (i : Nat) (x : V) H1, Ex H H1 → xs[i]? = some x → EvT t ((wipe σ vs).set j (some x)) H1 (f i)) (he : ∀ (i : Nat) (x : V) H1, Ex H H1 → xs[i]? = some x → f i = true → Ev te ((wipe σ vs).set j (some x)) H1 (v i)) :
    EvL (tLc (iTup K tl) (gName j) t te vs) σ H (given xs.length f v) := fun H0 e Q q => h H0 e _ fun H1 e1 => ⟨a, rfl, ⟨xs, ex_t (e.trans e1) hx⟩, fun Dl hD =>
  lc_tup (xs := xs) (Cw H1 f v Dl) ⟨hD, Ex.new hD, upd_same⟩ (fun i H' _ p => ex_t ((e.trans e1).trans p.2.1) hx) (fun i x H' hi p => ⟨hw x, cw_turn p (by have := (List.getElem?_eq_some_iff.mp hi).1; omega) (ht i x H1 (e.trans e1) hi) (fun hf => he i x H1 (e.trans e1) hi hf)⟩)
    (fun H' p => q Dl H' (fresh_back e1 p.1) (e1.trans p.2.1) p.2.2)⟩
theorem ev_fld {a C dx : Addr} {fs : List (Str × V)} {f : Str} {v : V} (h : Ev ta σ H (.ref a)) (hi : H a = some (.ins C dx fs)) (cl : Cls K C) (n : NoAttr K C f) (l : fs.lookup f = some v) : Ev (tFld K ta f) σ H v := fun H1 e Q q =>
  h H1 e _ fun H2 e2 => ⟨a, C, dx, fs, v, rfl, (e.trans e2) _ _ hi, cl, n, l, q H2 e2⟩
theorem ev_sum {ns : List Int} (h : EvL te σ H (ns.map V.int)) : Ev (tCB (rSum K) (tCons te tNil)) σ H (.int ns.sum) := fun H1 e Q q =>
  h H1 e _ fun p H2 _ e2 hp => ⟨p, ns, rfl, sq_of hp, q H2 e2⟩
theorem ev_maxD {ns : List Int} {d : Int} (h : EvL te σ H (ns.map V.int)) : Ev (tCKw (FsR.rMaxD K) (tCons te tNil) (tCons (tC (.int d)) tNil)) σ H (.int (FsR.maxDef d ns)) := fun H1 e Q q =>
  h H1 e _ fun p H2 _ e2 hp => ⟨p, ns, d, rfl, rfl, sq_of hp, q H2 e2⟩
theorem ev_lenT {a : Addr} {xs : List V} (h : Ev ta σ H (.ref a)) (hx : SqT K H a xs) : Ev (tCB (fun xs H Q => ∃ p ys, xs = [V.ref p] ∧ (SqL K H p ys ∨ SqT K H p ys) ∧ Q (.int ys.length) H) (tCons ta tNil)) σ H (.int (xs.length : Int)) := fun H1 e Q q =>
  h H1 e _ fun H2 e2 => ⟨a, xs, rfl, .inr (ex_t (e.trans e2) hx), q H2 e2⟩
theorem rc_isiOwn {C : Addr} {t : Value} {b : Bool} (ht : ∀ H1, Ex H H1 → TyX K H1 x t) (hk : PySem.W.kitOne K t (.ref C) = some b) : RC (rIsi K) [x, .ref C] H (.bl b) := fun H1 e Q q =>
  ⟨x, .ref C, t, .ref C, b, rfl, .own C, ht H1 e, hk, q H1 (Ex.refl H1)⟩
theorem range_ys {xs ys : List V} (hl : ys.length = xs.length) : (List.range xs.length).map (fun i => ys.getD i .non) = ys := by
  have e := range_map ys .non (fun y => y)
  rw [List.map_id', hl] at e
  exact e
/-- comprehensions, the result told by its items -/
theorem el_lcNLy {xs ys : List V} {tl : TE} {j : Nat} {vs : List Nat} (h : EvL tl σ H xs) (hz : xs.length ≤ 40000) (hw : ∀ x, wipe ((wipe σ vs).set j (some x)) vs = wipe σ vs) (hl : ys.length = xs.length)
    (he : ∀ (i : Nat) (x y : V) H1, Ex H H1 → xs[i]? = some x → ys[i]? = some y → Ev te ((wipe σ vs).set j (some x)) H1 y) : EvL (tLc (iList K tl) (gName j) tYes te vs) σ H ys := by
  have g := el_lcNL (K := K) (te := te) (j := j) (vs := vs) (t := tYes) (fun _ => true) (fun i => ys.getD i .non) h hz hw (fun _ _ _ _ _ => et_nil) (fun i x H3 e hc _ => by
    have hi := (List.getElem?_eq_some_iff.mp hc).1
    have hy : ys[i]? = some (ys.getD i .non) := by rw [List.getD_eq_getElem?_getD, List.getElem?_eq_getElem (by omega)]; rfl
    exact he i x _ H3 e hc hy)
  rw [given_all, range_ys hl] at g
  exact g
theorem el_lcLy {a : Addr} {xs ys : List V} {tl : TE} {j : Nat} {vs : List Nat} (h : Ev tl σ H (.ref a)) (hx : SqL K H a xs) (hz : xs.length ≤ 40000) (hw : ∀ x, wipe ((wipe σ vs).set j (some x)) vs = wipe σ vs) (hl : ys.length = xs.length)
    (he : ∀ (i : Nat) (x y : V) H1, Ex H H1 → xs[i]? = some x → ys[i]? = some y → Ev te ((wipe σ vs).set j (some x)) H1 y) : EvL (tLc (iList K tl) (gName j) tYes te vs) σ H ys := by
  have g := el_lcL (K := K) (te := te) (j := j) (vs := vs) (t := tYes) (fun _ => true) (fun i => ys.getD i .non) h hx hz hw (fun _ _ _ _ _ => et_nil) (fun i x H3 e hc _ => by
    have hi := (List.getElem?_eq_some_iff.mp hc).1
    have hy : ys[i]? = some (ys.getD i .non) := by rw [List.getD_eq_getElem?_getD, List.getElem?_eq_getElem (by omega)]; rfl
    exact he i x _ H3 e hc hy)
  rw [given_all, range_ys hl] at g
  exact g
theorem el_lcTy {a : Addr} {xs ys : List V} {tl : TE} {j : Nat} {vs : List Nat} (h : Ev tl σ H (.ref a)) (hx : SqT K H a xs) (hz : xs.length ≤ 40000) (hw : ∀ x, wipe ((wipe σ vs).set j (some x)) vs = wipe σ vs) (hl : ys.length = xs.length)
    (he : ∀ (i : Nat) (x y : V) H1, Ex H H1 → xs[i]? = some x → ys[i]? = some y → Ev te ((wipe σ vs).set j (some x)) H1 y) : EvL (tLc (iTup K tl) (gName j) tYes te vs) σ H ys := by
  have g := el_lcT (K := K) (te := te) (j := j) (vs := vs) (t := tYes) (fun _ => true) (fun i => ys.getD i .non) h hx hz hw (fun _ _ _ _ _ => et_nil) (fun i x H3 e hc _ => by
    have hi := (List.getElem?_eq_some_iff.mp hc).1
    have hy : ys[i]? = some (ys.getD i .non) := by rw [List.getD_eq_getElem?_getD, List.getElem?_eq_getElem (by omega)]; rfl
    exact he i x _ H3 e hc hy)
  rw [given_all, range_ys hl] at g
  exact g
end
end FsE

set_option Elab.async false
set_option linter.all false
set_option maxRecDepth 100000
set_option maxHeartbeats 2000000
namespace FsC
open PySem L2 Evl ClX FsR
/-- a def of the module that may be called by its name -/
structure CalX (P : Program) (w : World) (K : PySem.W.Frag) (mg : Str → Option Value) (base : Heap) (CX : CXT) (k : Nat) (x : Str) (sp : Sp) : Prop where
  ex : ∃ (f : Addr) (fd : FuncData) (ps : List Str), FnOk P w K mg base CX k f fd ps sp ∧ mg x = some (.ref f) ∧ PySem.W.keepIn K (.ref f) = true ∧ Binds K fd ps []
/-- C.m, a staticmethod of the class at C -/
structure StaX (P : Program) (w : World) (K : PySem.W.Frag) (mg : Str → Option Value) (base : Heap) (CX : CXT) (k : Nat) (C : Addr) (m : Str) (sp : Sp) : Prop where
  ex : ∃ (p f : Addr) (mc : Value) (fd : FuncData) (ps : List Str), CRead K C mc ∧ SMet K C mc m p f ∧ FnOk P w K mg base CX k f fd ps sp ∧ Binds K fd ps []
/-- C(..): a class that is made by its name -/
structure MakX (P : Program) (w : World) (K : PySem.W.Frag) (mg : Str → Option Value) (base : Heap) (CX : CXT) (k : Nat) (x : Str) (C : Addr) (sp : Sp) : Prop where
  ex : ∃ (f : Addr) (fd : FuncData) (ps : List Str), Mk K C f ∧ FnOk P w K mg base CX k f fd ps sp ∧ mg x = some (.ref C) ∧ Binds K fd ps []
section
variable {X : Cx} {CX : CXT} {k j : Nat} {C : Addr} {x m : Str} {sp : Sp} {E : L2.St → XK} {p pos apos : Pos} {e o : Expr} {es : List Expr} {ta : TE} {t : TA}
theorem pe_cx (c : CalX X.prog X.w X.K X.mg X.base CX k x sp) (hr : Room j X.A) (hk : k ≤ j) (hg : Gl X x) (hx : ∀ σ, PassesAt CX X σ (E σ)) (ha : PA X (e :: es) t)
    (hdb : (x == ("__debug__" : Str)) = false := by decide) (he : starEach (e :: es) X.env = (false, eval e X.env) :: starEach es X.env := by rfl) (hpl : (backTo pos (starEach es X.env)).any (·.1) = false := by rfl) :
    PE X (.Call (.Name x p) (e :: es) [] pos) (tCallS sp E t) := by
  obtain ⟨f, fd, ps, F, hm, kp, b⟩ := c.ex
  exact pe_callS F (hr.mono hk) hg hm kp b hx ha hdb he hpl
theorem pe_sx {pl : Sem Bool} (c : StaX X.prog X.w X.K X.mg X.base CX k C m sp) (hr : Room j X.A) (hk : k ≤ j) (ho : PE X o ta) (hx : ∀ σ, PassesAt CX X σ (E σ)) (ha : PA X (e :: es) t)
    (hst : starEach (e :: es) X.env = (false, eval e X.env) :: starEach es X.env := by rfl) (hpl : (backTo pos (starEach es X.env)).any (·.1) = false := by rfl)
    (ht : eval (.Call (.Attribute o m apos) (e :: es) [] pos) X.env = (do
      let ov ← eval o X.env
      standAt apos.atName
      let (f, first) ← holding [ov] (getMethod ov m pl)
      callWith pos f first (backTo pos (starEach (e :: es) X.env)) (backToKw pos (keywordEach [] X.env))) := by rfl) :
    PE X (.Call (.Attribute o m apos) (e :: es) [] pos) (tStat C sp E ta t) := by
  obtain ⟨p, f, mc, fd, ps, r, s, F, b⟩ := c.ex
  exact pe_stat (pl := pl) ho r s F (hr.mono hk) b hx ha hst hpl ht
theorem pe_sx0 {pl : Sem Bool} (c : StaX X.prog X.w X.K X.mg X.base CX k C m sp) (hr : Room j X.A) (hk : k ≤ j) (ho : PE X o ta) (hx : ∀ σ, PassesAt CX X σ (E σ))
    (ht : eval (.Call (.Attribute o m apos) [] [] pos) X.env = (do
      let ov ← eval o X.env
      standAt apos.atName
      let (f, first) ← holding [ov] (getMethod ov m pl)
      callWith pos f first (backTo pos (starEach [] X.env)) (backToKw pos (keywordEach [] X.env))) := by rfl) :
    PE X (.Call (.Attribute o m apos) [] [] pos) (tStat C sp E ta tNil) := by
  obtain ⟨p, f, mc, fd, ps, r, s, F, b⟩ := c.ex
  exact pe_stat0 (pl := pl) ho r s F (hr.mono hk) b hx ht
theorem pe_mx {E : XK} (c : MakX X.prog X.w X.K X.mg X.base CX k x C sp) (hr : Room j X.A) (hk : k + 1 ≤ j) (hg : Gl X x) (hx : Passes CX X E) (ha : PA X (e :: es) t)
    (hdb : (x == ("__debug__" : Str)) = false := by decide) (he : starEach (e :: es) X.env = (false, eval e X.env) :: starEach es X.env := by rfl) (hpl : (backTo pos (starEach es X.env)).any (·.1) = false := by rfl) :
    PE X (.Call (.Name x p) (e :: es) [] pos) (tMake C sp [] E t) := by
  obtain ⟨f, fd, ps, M, F, hm, b⟩ := c.ex
  exact pe_make M F (hr.mono hk) hg hm b .nil hx ha hdb he hpl
theorem at0 {X : Cx} {E : L2.St → XK} : ∀ σ, PassesAt CX0 X σ (E σ) := fun _ _ _ _ _ _ _ h => h.elim
/-- what a call within a def that may raise lets out -/
theorem atX {P : Program} {w : World} {X : Cx} {E : XK} (h : Passes (L2.CX P w) X E) : ∀ σ, PassesAt (L2.CX P w) X σ ((fun _ => E) σ) := fun σ => passesAt_of h σ
end
section
variable {σ : L2.St} {H : Hp} {z : V} {sp : Sp} {ta : TA} {vs : List V} {E : L2.St → XK}
theorem ev_cx (h : EvA ta σ H vs) (hs : SpV sp vs H z) : Ev (tCallS sp E ta) σ H z := fun H1 e Q q =>
  h H1 e _ fun H2 e2 => hs H2 (e.trans e2) Q (fun H3 e3 => q H3 (e2.trans e3)) (E σ)
theorem ev_sx {C : Addr} {to : TE} (ho : Ev to σ H (.ref C)) (h : EvA ta σ H vs) (hs : SpV sp vs H z) : Ev (tStat C sp E to ta) σ H z := fun H1 e Q q =>
  ho H1 e _ fun H2 e2 => ⟨rfl, h H2 (e.trans e2) _ fun H3 e3 => hs H3 ((e.trans e2).trans e3) Q (fun H4 e4 => q H4 ((e2.trans e3).trans e4)) (E σ)⟩
theorem el_cx {xs : List V} (h : EvA ta σ H vs) (hs : SpL sp vs H xs) : EvL (tCallS sp E ta) σ H xs := fun H1 e Q q =>
  h H1 e _ fun H2 e2 => hs H2 (e.trans e2) Q (fun p H3 hp e3 h3 => q p H3 (fresh_back e2 hp) (e2.trans e3) h3) (E σ)
end
end FsC

set_option Elab.async false
set_option linter.all false
set_option maxRecDepth 100000
set_option maxHeartbeats 2000000
namespace Fs
open PySem L2 Evl FsE FsC FsR
/-- the parts of a process, as its tuple holds them -/
def PartsAt (C : Addr) (H : Hp) (ps : List V) : Pr → Prop
  | .choice os => OfsAt C H ps os
  | .new n k r => ∃ b, ps = [.str n, .int k, .ref b] ∧ PrAt C H b r
  | .cond l r y n => ∃ b c, ps = [l.v, r.v, .ref b, .ref c] ∧ PrAt C H b y ∧ PrAt C H c n
  | .call n ops => ∃ u, ps = [.str n, .ref u] ∧ H u = some (.tup (ops.map Opd.v))
theorem PartsAt.ex {C : Addr} {H H' : Hp} {ps : List V} {p : Pr} (e : Ex H H') (h : PartsAt C H ps p) : PartsAt C H' ps p := by
  cases p with
  | choice os => exact OfsAt.ex e h
  | new n k r =>
    obtain ⟨b, h1, h2⟩ := h
    exact ⟨b, h1, h2.ex e⟩
  | cond l r y n =>
    obtain ⟨b, c, h1, h2, h3⟩ := h
    exact ⟨b, c, h1, h2.ex e, h3.ex e⟩
  | call n ops =>
    obtain ⟨u, h1, h2⟩ := h
    exact ⟨u, h1, e _ _ h2⟩
theorem PrAt.mk {C : Addr} {H : Hp} {a t : Addr} {ps : List V} {p : Pr} (h1 : InsAt C H a p.kind t p.depth p.size) (h2 : H t = some (.tup ps)) (h3 : PartsAt C H ps p) : PrAt C H a p := by
  cases p with
  | choice os =>
    unfold PrAt
    unfold Pr.kind Pr.depth Pr.size at h1
    exact ⟨t, ps, h1, h2, h3⟩
  | new n k r =>
    unfold PrAt
    unfold Pr.kind Pr.depth Pr.size at h1
    obtain ⟨b, rfl, h4⟩ := h3
    exact ⟨t, b, h1, h2, h4⟩
  | cond l r y n =>
    unfold PrAt
    unfold Pr.kind Pr.depth Pr.size at h1
    obtain ⟨b, c, rfl, h4, h5⟩ := h3
    exact ⟨t, b, c, h1, h2, h4, h5⟩
  | call n ops =>
    unfold PrAt
    unfold Pr.kind Pr.depth Pr.size at h1
    obtain ⟨u, rfl, h4⟩ := h3
    exact ⟨t, u, h1, h2, h4⟩
theorem PrAt.out {C : Addr} {H : Hp} {a : Addr} {p : Pr} (h : PrAt C H a p) : ∃ t ps, InsAt C H a p.kind t p.depth p.size ∧ H t = some (.tup ps) ∧ PartsAt C H ps p := by
  cases p with
  | choice os =>
    unfold PrAt at h
    obtain ⟨t, ps, h1, h2, h3⟩ := h
    exact ⟨t, ps, by unfold Pr.kind Pr.depth Pr.size; exact h1, h2, h3⟩
  | new n k r =>
    unfold PrAt at h
    obtain ⟨t, b, h1, h2, h3⟩ := h
    exact ⟨t, _, by unfold Pr.kind Pr.depth Pr.size; exact h1, h2, b, rfl, h3⟩
  | cond l r y n =>
    unfold PrAt at h
    obtain ⟨t, b, c, h1, h2, h3, h4⟩ := h
    exact ⟨t, _, by unfold Pr.kind Pr.depth Pr.size; exact h1, h2, b, c, rfl, h3, h4⟩
  | call n ops =>
    unfold PrAt at h
    obtain ⟨t, u, h1, h2, h3⟩ := h
    exact ⟨t, _, by unfold Pr.kind Pr.depth Pr.size; exact h1, h2, u, rfl, h3⟩
/-! ### what is contained directly -/
def Ofs.rests : Ofs → List Pr
  | .nil => []
  | .cons _ _ _ _ _ r os => r :: os.rests
def Pr.inner : Pr → List Pr
  | .choice os => os.rests
  | .new _ _ r => [r]
  | .cond _ _ y n => [y, n]
  | .call _ _ => []
/-- a list of processes, by their addresses -/
def InnAt (C : Addr) (H : Hp) : List V → List Pr → Prop
  | [], [] => True
  | x :: xs, p :: ps => (∃ a, x = .ref a ∧ PrAt C H a p) ∧ InnAt C H xs ps
  | _, _ => False
theorem InnAt.ex {C : Addr} {H H' : Hp} (e : Ex H H') : ∀ {xs : List V} {ps : List Pr}, InnAt C H xs ps → InnAt C H' xs ps
  | [], [], _ => True.intro
  | x :: xs, p :: ps, ⟨⟨a, h1, h2⟩, h3⟩ => ⟨⟨a, h1, h2.ex e⟩, InnAt.ex e h3⟩
  | [], _ :: _, h => h.elim
  | _ :: _, [], h => h.elim
theorem InnAt.get {C : Addr} {H : Hp} : ∀ {xs : List V} {ps : List Pr} {x : V}, InnAt C H xs ps → x ∈ xs → ∃ a p, x = .ref a ∧ PrAt C H a p ∧ p ∈ ps
  | [], _, _, _, hx => nomatch hx
  | y :: xs, [], _, h, _ => h.elim
  | y :: xs, p :: ps, x, ⟨⟨a, h1, h2⟩, h3⟩, hx => by
    rcases List.mem_cons.mp hx with rfl | hx
    · exact ⟨a, p, h1, h2, List.mem_cons_self⟩
    · obtain ⟨b, q, k1, k2, k3⟩ := InnAt.get h3 hx
      exact ⟨b, q, k1, k2, List.mem_cons_of_mem _ k3⟩
theorem InnAt.length {C : Addr} {H : Hp} : ∀ {xs : List V} {ps : List Pr}, InnAt C H xs ps → xs.length = ps.length
  | [], [], _ => rfl
  | x :: xs, p :: ps, ⟨_, h⟩ => congrArg (· + 1) (InnAt.length h)
  | [], _ :: _, h => h.elim
  | _ :: _, [], h => h.elim
theorem Ofs.rests_len : ∀ os : Ofs, os.rests.length = os.len
  | .nil => rfl
  | .cons _ _ _ _ _ r os => congrArg (· + 1) (Ofs.rests_len os)
/-- the greatest depth, the sum of the sizes -/
theorem Ofs.sum_eq : ∀ os : Ofs, os.sum = (os.rests.map Pr.size).sum
  | .nil => rfl
  | .cons _ _ _ _ _ r os => by
    unfold Ofs.sum Ofs.rests
    rw [List.map_cons, List.sum_cons, Ofs.sum_eq os]
mutual
theorem Pr.depth_pos : ∀ p : Pr, 1 ≤ p.depth
  | .choice os => by
    unfold Pr.depth
    have := Ofs.depth_nn os
    omega
  | .new _ _ r => by
    unfold Pr.depth
    have := Pr.depth_pos r
    omega
  | .cond _ _ y n => by
    unfold Pr.depth
    have := Pr.depth_pos y
    have := Pr.depth_pos n
    omega
  | .call _ _ => by
    unfold Pr.depth
    omega
theorem Ofs.depth_nn : ∀ os : Ofs, 0 ≤ os.depth
  | .nil => by
    unfold Ofs.depth
    omega
  | .cons _ _ _ _ _ r os => by
    unfold Ofs.depth
    have := Pr.depth_pos r
    omega
end
theorem maxFrom_ge : ∀ (ys : List Int) (y : Int), maxFrom y ys = max y (maxFrom 0 ys) ∨ (y < 0)
  | [], y => by
    unfold maxFrom
    simp only [List.foldl_nil]
    omega
  | z :: zs, y => by
    have h1 := maxFrom_ge zs (max y z)
    have h2 := maxFrom_ge zs (max 0 z)
    unfold maxFrom at *
    simp only [List.foldl_cons]
    omega
theorem Ofs.depth_eq : ∀ os : Ofs, maxDef 0 (os.rests.map Pr.depth) = os.depth
  | .nil => rfl
  | .cons _ _ _ _ _ r os => by
    unfold Ofs.rests Ofs.depth
    rw [List.map_cons]
    show maxFrom r.depth (os.rests.map Pr.depth) = max r.depth os.depth
    have ih := Ofs.depth_eq os
    have hr := Pr.depth_pos r
    cases hr2 : os.rests.map Pr.depth with
    | nil =>
      rw [hr2] at ih
      have e0 : (0 : Int) = os.depth := ih
      unfold maxFrom
      simp only [List.foldl_nil]
      omega
    | cons y ys =>
      rw [hr2] at ih
      have e0 : maxFrom y ys = os.depth := ih
      have hy : 1 ≤ y := by
        have : y ∈ os.rests.map Pr.depth := by rw [hr2]; exact List.mem_cons_self
        obtain ⟨q, _, rfl⟩ := List.mem_map.mp this
        exact Pr.depth_pos q
      have h1 := maxFrom_ge ys y
      have h2 := maxFrom_ge ys (max r.depth y)
      show maxFrom (max r.depth y) ys = _
      omega
theorem Pr.depth_eq (p : Pr) : 1 + maxDef 0 (p.inner.map Pr.depth) = p.depth := by
  cases p with
  | choice os =>
    unfold Pr.inner Pr.depth
    rw [Ofs.depth_eq]
  | new n k r =>
    unfold Pr.depth
    rfl
  | cond l r y n =>
    unfold Pr.depth
    rfl
  | call n ops =>
    unfold Pr.depth
    rfl
def Pr.own : Pr → Int
  | .choice os => max 1 (os.len : Int)
  | _ => 1
theorem Pr.size_eq (p : Pr) : p.own + (p.inner.map Pr.size).sum = p.size := by
  cases p with
  | choice os =>
    unfold Pr.inner Pr.size Pr.own
    rw [Ofs.sum_eq]
  | new n k r =>
    unfold Pr.size Pr.own Pr.inner
    simp
  | cond l r y n =>
    unfold Pr.size Pr.own Pr.inner
    simp
  | call n ops =>
    unfold Pr.size Pr.own Pr.inner
    simp
theorem OfsAt.len {C : Addr} {H : Hp} : ∀ {os : Ofs} {ps : List V}, OfsAt C H ps os → ps.length = os.len
  | .nil, ps, h => by
    unfold OfsAt at h
    rw [h]
    rfl
  | .cons c s m op ns r os, ps, h => by
    unfold OfsAt at h
    obtain ⟨o, u, b, qs, h1, _, _, _, h5⟩ := h
    rw [h1]
    exact congrArg (· + 1) (OfsAt.len h5)
/-- the rests of the offers -/
theorem OfsAt.rests {C : Addr} {H : Hp} : ∀ {os : Ofs} {ps : List V}, OfsAt C H ps os → ∃ rs : List V, rs.length = ps.length ∧ InnAt C H rs os.rests ∧
    ∀ (i : Nat) (x : V), ps[i]? = some x → ∃ (o : Addr) (c : Str) (s m : Int) (op : Opd) (u : Addr) (y : V), x = .ref o ∧ rs[i]? = some y ∧ H o = some (.tup [.str c, .int s, .int m, op.v, .ref u, y])
  | .nil, ps, h => by
    unfold OfsAt at h
    subst h
    exact ⟨[], rfl, True.intro, fun i x hx => by simp at hx⟩
  | .cons c s m op ns r os, ps, h => by
    unfold OfsAt at h
    obtain ⟨o, u, b, qs, rfl, h2, h3, h4, h5⟩ := h
    obtain ⟨rs, k1, k2, k3⟩ := OfsAt.rests h5
    refine ⟨.ref b :: rs, congrArg (· + 1) k1, ⟨⟨b, rfl, h4⟩, k2⟩, fun i x hx => ?_⟩
    cases i with
    | zero =>
      have e : V.ref o = x := by simpa using hx
      subst e
      exact ⟨o, c, s, m, op, u, .ref b, rfl, rfl, h2⟩
    | succ i =>
      obtain ⟨o', c', s', m', op', u', y', z1, z2, z3⟩ := k3 i x (by simpa using hx)
      exact ⟨o', c', s', m', op', u', y', z1, by simpa using z2, z3⟩
/-- rs: what a process with these parts contains directly -/
def InnOf (C : Addr) (H : Hp) (ps rs : List V) : Pr → Prop
  | .choice os => rs.length = ps.length ∧ InnAt C H rs os.rests ∧
    ∀ (i : Nat) (x : V), ps[i]? = some x → ∃ (o : Addr) (c : Str) (s m : Int) (op : Opd) (u : Addr) (y : V), x = .ref o ∧ rs[i]? = some y ∧ H o = some (.tup [.str c, .int s, .int m, op.v, .ref u, y])
  | .new n k r => ∃ b, ps = [.str n, .int k, .ref b] ∧ rs = [.ref b] ∧ PrAt C H b r
  | .cond l r y n => ∃ b c, ps = [l.v, r.v, .ref b, .ref c] ∧ rs = [.ref b, .ref c] ∧ PrAt C H b y ∧ PrAt C H c n
  | .call n ops => ∃ u, ps = [.str n, .ref u] ∧ rs = [] ∧ H u = some (.tup (ops.map Opd.v))
theorem InnOf.ex {C : Addr} {H H' : Hp} {ps rs : List V} {p : Pr} (e : Ex H H') (h : InnOf C H ps rs p) : InnOf C H' ps rs p := by
  cases p with
  | choice os =>
    obtain ⟨h1, h2, h3⟩ := h
    refine ⟨h1, h2.ex e, fun i x hx => ?_⟩
    obtain ⟨o, c, s, m, op, u, y, z1, z2, z3⟩ := h3 i x hx
    exact ⟨o, c, s, m, op, u, y, z1, z2, e _ _ z3⟩
  | new n k r =>
    obtain ⟨b, h1, h2, h3⟩ := h
    exact ⟨b, h1, h2, h3.ex e⟩
  | cond l r y n =>
    obtain ⟨b, c, h1, h2, h3, h4⟩ := h
    exact ⟨b, c, h1, h2, h3.ex e, h4.ex e⟩
  | call n ops =>
    obtain ⟨u, h1, h2, h3⟩ := h
    exact ⟨u, h1, h2, e _ _ h3⟩
theorem PartsAt.inn {C : Addr} {H : Hp} {ps : List V} {p : Pr} (h : PartsAt C H ps p) : ∃ rs, InnOf C H ps rs p := by
  cases p with
  | choice os =>
    obtain ⟨rs, h1, h2, h3⟩ := OfsAt.rests h
    exact ⟨rs, h1, h2, h3⟩
  | new n k r =>
    obtain ⟨b, h1, h2⟩ := h
    exact ⟨[.ref b], b, h1, rfl, h2⟩
  | cond l r y n =>
    obtain ⟨b, c, h1, h2, h3⟩ := h
    exact ⟨[.ref b, .ref c], b, c, h1, rfl, h2, h3⟩
  | call n ops =>
    obtain ⟨u, h1, h2⟩ := h
    exact ⟨[], u, h1, rfl, h2⟩
theorem InnOf.at {C : Addr} {H : Hp} {ps rs : List V} {p : Pr} (h : InnOf C H ps rs p) : InnAt C H rs p.inner := by
  cases p with
  | choice os => exact h.2.1
  | new n k r =>
    obtain ⟨b, _, rfl, h3⟩ := h
    exact ⟨⟨b, rfl, h3⟩, True.intro⟩
  | cond l r y n =>
    obtain ⟨b, c, _, rfl, h3, h4⟩ := h
    exact ⟨⟨b, rfl, h3⟩, ⟨c, rfl, h4⟩, True.intro⟩
  | call n ops =>
    obtain ⟨u, _, rfl, _⟩ := h
    exact True.intro
theorem InnAt.at_ {C : Addr} {H : Hp} : ∀ {xs : List V} {ps : List Pr} {i : Nat} {x : V}, InnAt C H xs ps → xs[i]? = some x → ∃ a p, x = .ref a ∧ PrAt C H a p ∧ ps[i]? = some p
  | [], _, _, _, _, hx => by simp at hx
  | y :: xs, [], _, _, h, _ => h.elim
  | y :: xs, p :: ps, 0, x, ⟨⟨a, h1, h2⟩, h3⟩, hx => by
    have e : y = x := by simpa using hx
    subst e
    exact ⟨a, p, h1, h2, rfl⟩
  | y :: xs, p :: ps, i + 1, x, ⟨_, h3⟩, hx => by
    obtain ⟨b, q, k1, k2, k3⟩ := InnAt.at_ (i := i) h3 (by simpa using hx)
    exact ⟨b, q, k1, k2, by simpa using k3⟩
end Fs

set_option Elab.async false
set_option linter.all false
set_option maxRecDepth 100000
set_option maxHeartbeats 4000000
/-! An own error over ValueError, by a class between: its __init__ calls super().__init__ with a fixed text, then stores its one argument as the field field. -/
namespace FsB
open PySem PySem.W PySem.Calls PyProof.Rows PySem.HandSPX
abbrev eS : Scope := { kind := .function, names := [(PySem.Str.ofString "self", .local), (PySem.Str.ofString "field", .local), (PySem.Str.ofString "__class__", .free), (PySem.Str.ofString "super", .globalImplicit)], isGenerator := false, isCoroutine := false, more := [] }
abbrev eA (p1 p2 : Pos) : Arguments := { posonlyargs := [], args := [{ arg := "self", annotation := none, pos := p1 }, { arg := "field", annotation := none, pos := p2 }], vararg := none, kwonlyargs := [], kw_defaults := [], kwarg := none, defaults := [] }
abbrev eB (msg : Expr) (p0 p1 p2 p3 p4 p5 p6 p7 p8 : Pos) : List Stmt := [.Expr (.Call (.Attribute (.Call (.Name "super" p0) [] [] p1) "__init__" p2) [msg] [] p3) p4, .Assign [.Attribute (.Name "self" p5) "field" p6] (.Name "field" p7) p8]
/-- the message -/
abbrev eM (z : Str) (q0 : Pos) : Expr := .Constant (.str z) 0 q0
abbrev mroVE : List Value := [.type "ValueError", .type "Exception", .type "BaseException", .type "object"]
/-- what the written part says of the class at C, and of its __init__, at fI -/
structure ErrTxt (prog : Program) (K : Frag) (mg : Str → Option Value) (x : Str) (C fI : Addr) : Prop where
  gC : mg x = some (.ref C)
  cls : ∃ nm q N bs bm sn sub ab col dd k0 k1 k2 k3 k5, K.lookup C = some (excClassObj nm q C N bs bm true sn sub ab col dd k0 k1 k2 k3 k5 "ValueError.__new__") ∧ refsVE bm = true
  ei : excInitIn K C mroVE "ValueError.__new__" = true
  sa : findIn K (.ref C) "__setattr__" = some (some (.builtin "object.__setattr__"))
  noN : findIn K (.ref C) "field" = some none
  iC : findIn K (.ref C) "__init__" = some (some (.ref fI))
  tC : typeIn K (.ref fI) = some (.type "function")
  kC : keepIn K (.ref C) = true
  exC : subIn K (.ref C) (.type "BaseException") = some true
  veC : subIn K (.ref C) (.type "ValueError") = some true
  tyC : typeIn K (.ref C) = some (.type "type")
  slf : mroIn K C (.ref C) = some true
  sup : ks_superIn K C C "__init__" = some (some (.builtin "ValueError.__init__"))
  opq : nsIn K cStatics "thirdparty.any" = some none
  gs : mg "super" = none
  top : (prog.main.scope.names.lookup ("super" : Str)).isSome = false
  fn : ∃ (oc : Value) (od an : Option Addr) (kV doc pm ct : Value) (osl : Array (Option Value)) (qual : Str) (cda cc : Addr) (ccl cl : Value) (cdd cld : Option Addr) (ccs csl : Array (Option Value)) (vs : Array Value) (file : Str) (tf : Tok) (zM : Str) (p1 p2 q0 r0 r1 r2 r3 r4 r5 r6 r7 r8 : Pos),
    K.lookup fI = some ⟨oc, od, .func (ksFn "__init__" qual (eA p1 p2) (eB (eM zM q0) r0 r1 r2 r3 r4 r5 r6 r7 r8) eS .none kV doc pm an (.ref cda) ct cc), osl⟩ ∧ codeIn K (.ref cda) qual = true ∧
    K.lookup cda = some ⟨ccl, cdd, .fields vs, ccs⟩ ∧ vs[2]? = some (.str file tf) ∧ ((prog.main.file : Str) == file) = true ∧ K.lookup cc = some ⟨cl, cld, .cell (some (.ref C)), csl⟩ ∧ zM.length ≤ 1000 ∧ (r2.endLine == r3.line) = true
theorem call_line {o : Expr} {name : Str} {apos pos : Pos} {a : Expr} {env : Env} (hp : (apos.endLine == pos.line) = true) (hs : starEach [a] env = (false, eval a env) :: starEach [] env) : eval (.Call (.Attribute o name apos) [a] [] pos) env = (do
      let ov ← attributeBase o name env (eval o env)
      standAt apos.atName
      let (f, first) ← holding [ov] (getMethod ov name (do return (← importBound o env).getD true))
      callWith pos f first (backTo pos (starEach [a] env)) []) := by
  show (do
      let ov ← attributeBase o name env (eval o env)
      standAt apos.atName
      methodCall o name apos pos env ov 1 (backTo pos (starEach [a] env)) []) = _
  have e : methodCallForm 1 (backTo pos (starEach [a] env)) [] = true := by
    rw [hs]
    rfl
  unfold methodCall
  rw [e]
  unfold methodCallPos calleeOf
  rw [hp]
  simp only [Bool.not_true, Bool.false_or, if_true, pure_bind]
/-- what __init__ leaves of a fresh exception at x, over the heap h -/
structure BtEnd (h h' : Heap) (x C dx t1 : Addr) (v : Value) : Prop where
  keep : ∀ b o, h.get? b = some o → h'.get? b = some o
  obj : h'.get? x = some { cls := .ref C, dict := some dx, data := .fields #[.ref t1, .none, .none, .none, .bool false, .none] }
  dbig : h.objs.size ≤ dx
  dne : dx ≠ x
  ns : h'.Ns1 dx (fun y => if y = "field" then some v else none)
theorem str_len2 (a b : Str) : (a ++ b).length = a.length + b.length := by
  show (a.cps ++ b.cps).size = _
  rw [Array.size_append]
  rfl
theorem len1 (v : Value) : [v].length ≤ sizeLine := by
  rw [sizeLine_eq]
  exact (by decide : 1 ≤ 16777216)
section
variable {prog : Program} {w : World} {A : Around} {E : Value → Shared → Prop} {R : Result → Shared → Prop} {s : Shared} {K : Frag} {mg : Str → Option Value} {x0 : Str} {C fI : Addr}
theorem bt_init (T : ErrTxt prog K mg x0 C fI) {hp : Heap} {x t0 : Addr} {v : Value} (X : K.In hp) (G : hp.Ns mainGlobals mg) (Bl : ∃ mb, hp.Ns builtinsNs mb ∧ mb "super" = some (.type "super")) (hlim : s.heap.NoLimit)
    (k : ∀ b o, hp.get? b = some o → s.heap.get? b = some o) (hsz : hp.objs.size ≤ s.heap.objs.size) (hx : s.heap.get? x = some (excO C t0)) (hxn : hp.get? x = none) (hroom : A.depth < recursionLimit)
    (hq : ∀ h' tk' dx t1, BtEnd hp h' x C dx t1 v → R (.ok (.ret .none)) { s with heap := h', toks := tk' }) :
    codeAny (model prog w) A (.call (.ref fI) ⟨[.ref x, v], []⟩) R s := by
  obtain ⟨oc, od, an, kV, doc, pm, ct, osl, qual, cda, cc, ccl, cl, cdd, cld, ccs, csl, vs, file, tf, zM, p1, p2, q0, r0, r1, r2, r3, r4, r5, r6, r7, r8, ho, hcd, hcode, hvs, hfile, hcell, hM, hline⟩ := T.fn
  obtain ⟨nm, q, N, bs, bm, sn, sub, ab, col, dd, k0, k1, k2, k3, k5, hC, hbm⟩ := T.cls
  obtain ⟨mb, hb, hmb⟩ := Bl
  have hcl : clsIn K C = some { name := nm, bases := bs, mro := .ref C :: bm, ns := N, qualname := q, hasDict := true, slotNames := sn, subclasses := sub, abstract := ab, collection := col, hasDel := false } := by unfold clsIn; rw [hC] <;> rfl
  have Xs : K.In s.heap := X.keeps k
  have noc : ∀ y ∈ eS.names, y.2 ≠ .cell := by decide +kernel
  have locs : ∀ y ∈ [(("self" : Str), Value.ref x), ("field", v)], eS.names.lookup y.1 = some .local := fun y hy => by
    rcases List.mem_cons.mp hy with rfl | hy
    · rfl
    · rw [List.mem_singleton.mp hy]
      rfl
  refine ks_codeAny_call_defAt (body := eB (eM zM q0) r0 r1 r2 r3 r4 r5 r6 r7 r8) (binds := [("self", .ref x), ("field", v)]) hroom (Xs _ _ ho) rfl hlim (codeRec_of Xs hcd) rfl (BindsTo.of_eq (by first | rfl | with_unfolding_all rfl)) noc locs (fun h₁ hns hk₁ => ?_) rfl rfl rfl
  have Fr1 : Fr hp s.heap.objs.size h₁ (fun y => [(("self" : Str), Value.ref x), ("field", v)].reverse.lookup y) := ⟨hns, fun b o e => hk₁ b o (k b o e), hsz⟩
  have N1 : News hp s.heap.objs.size h₁ [(x, excObj C t0 none .none)] := fun p hp' => by
    rw [List.mem_singleton.mp hp']
    exact ⟨hk₁ _ _ hx, Nat.ne_of_lt (Heap.lt_size hx), hxn⟩
  show _root_.PySem.wpAt (model prog w) _ (.func _ (ksEnv qual eS s.heap.objs.size fI (.ref cda) cc)) (execs (eB (eM zM q0) r0 r1 r2 r3 r4 r5 r6 r7 r8) (ksEnv qual eS s.heap.objs.size fI (.ref cda) cc)) _ _ _
  refine ks_wpAt_execs_cons (ks_wpAt_Expr_any (ks_wpAt_MethodCall ?_ (call_line hline rfl)))
  generalize hE : (fun e s' => wpAny (model prog w) _ (leaving _ e) (fun x s'' => R (Except.error e) s'') (fun e' s'' => R (Except.error e') s'') s') = EE
  have X1 : K.In h₁ := X.keeps Fr1.keep
  -- super()
  refine ks_wpAt_super_base (env := ksEnv qual eS s.heap.objs.size fI (.ref cda) cc) rfl rfl rfl rfl (X1 _ _ ho) rfl rfl rfl (X1 _ _ hcode) rfl hvs hfile T.top ?_
  refine ks_loadName_global rfl rfl (loadGlobal_builtin (env := ksEnv qual eS s.heap.objs.size fI (.ref cda) cc) (G.keeps Fr1.keep) T.gs (hb.keeps Fr1.keep) hmb ⟨rfl, ?_⟩)
  refine wpAny_loadName_free rfl rfl rfl ⟨_, X1 _ _ hcell, rfl⟩ ?_
  refine wpAny_loadName_local (v := .ref x) rfl rfl hns rfl ?_
  refine ks_wpAny_isType_cls (X1 _ _ hC) rfl ⟨rfl, ?_⟩
  refine ks_wpAny_call_super (X1 _ _ hC) rfl (hk₁ _ _ hx) rfl (fun c z => by cases z) (looks_mroIn X1 T.slf) (fun h2 hso k2 => ?_)
  obtain ⟨F2, N2, l2⟩ := ks_newsPush (s := ⟨h₁, s.gens, s.drawn, s.toks + 2, s.os⟩) Fr1 N1 rfl hso k2
  -- its __init__, bound
  refine kxs_method kxs_ValueError F2 X N2 (List.mem_cons_self ..) (InstAt.of_exc0 (c2 := .none) (t := t0) N2 (List.mem_cons_of_mem _ (List.mem_cons_self ..))) T.opq T.sup T.veC rfl (fun u h3 F3 N3 l3 => ?_)
  refine kxs_callWith1 N3 (List.mem_cons_self ..) ?_ rfl rfl
  refine Calls.spliced_cons ?_
  show wpAny _ _ (eval (eM zM q0) (ksEnv qual eS s.heap.objs.size fI (.ref cda) cc)) _ _ _
  refine Calls.Constant_str ?_
  refine Calls.spliced_nil ⟨kxs_at N3 (List.mem_cons_self ..), ?_⟩
  have nx1 : h₁.objs.size ≠ x := fun z => Nat.lt_irrefl _ (z ▸ l2 _ (List.mem_cons_self ..) : x < x)
  have nx2 : u ≠ x := fun z => Nat.lt_irrefl _ (z ▸ l3 _ (List.mem_cons_of_mem _ (List.mem_cons_self ..)) : x < x)
  refine kxs_call F3 X N3 PySem.F.excBase_ValueError T.ei (List.mem_cons_self ..) (.tail nx2 (.tail nx1 (.head fun p hp' => by cases hp'))) (len1 _) (fun t' h4 F4 N4 l4 => ?_)
  -- self.field = field
  have X4 : K.In h4 := X.keeps F4.keep
  have hx4 : h4.get? x = some (excO C t') := (N4 (x, excObj C t' none .none) (List.mem_cons_of_mem _ (List.mem_cons_of_mem _ (List.mem_cons_of_mem _ (List.mem_cons_self ..))))).1
  refine wpAt_of_wpAny (wpAny_execs_cons (plainObj_wpAny_Assign_Attribute ?_))
  refine wpAny_Name (wpAny_loadName_local (v := v) rfl rfl F4.ns rfl ?_) rfl
  refine wpAny_Name (wpAny_loadName_local (v := .ref x) rfl rfl F4.ns rfl ?_) rfl
  refine set_plain X4 (ox := excO C t') (od := none) ⟨hx4, rfl, rfl, trivial⟩ T.sa ?_
  refine exc_osa X4 hx4 hcl (show refsVE (.ref C :: bm) = true from hbm) rfl T.noN (fun h5 tk5 dx k5 dn dne hx5 hn5 => ?_)
  have zz : s.heap.objs.size < h4.objs.size := F4.ns.lt
  exact wpAny_execs_nil (hq h5 tk5 dx t' ⟨fun b o e => k5 b o (fun z => by rw [z, hxn] at e; cases e) (F4.keep b o e), hx5, Nat.le_trans hsz (Nat.le_trans (Nat.le_of_lt zz) dn), dne, hn5⟩)
end
end FsB

set_option Elab.async false
set_option linter.all false
set_option maxRecDepth 100000
set_option maxHeartbeats 2000000
/-! Lists of things that stand in the heap; what a list's change leaves. -/
namespace FsK
open PySem PySem.Spec PyProof.Rows L2 Evl FsE FsC FsR Fs
/-- a list may change: what stands in objects and tuples stays -/
structure ExN (H H' : Hp) : Prop where
  ins : ∀ a C dx fs, H a = some (.ins C dx fs) → H' a = some (.ins C dx fs)
  tup : ∀ a xs, H a = some (.tup xs) → H' a = some (.tup xs)
theorem ExN.upd {H : Hp} {l : Addr} {xs ys : List V} (h : H l = some (.lst xs)) : ExN H (upd H l (.lst ys)) := ⟨fun a C dx fs ha => by
    rw [upd_ne (fun z => by rw [z, h] at ha; cases ha)]
    exact ha, fun a xs ha => by
    rw [upd_ne (fun z => by rw [z, h] at ha; cases ha)]
    exact ha⟩
theorem ExN.of {H H' : Hp} (e : Ex H H') : ExN H H' := ⟨fun _ _ _ _ h => e _ _ h, fun _ _ h => e _ _ h⟩
theorem ExN.trans {H H1 H2 : Hp} (e : ExN H H1) (e' : ExN H1 H2) : ExN H H2 := ⟨fun a C dx fs h => e'.ins _ _ _ _ (e.ins _ _ _ _ h), fun a xs h => e'.tup _ _ (e.tup _ _ h)⟩
mutual
theorem PrAt.keep {C : Addr} {H H' : Hp} (e : ExN H H') : ∀ {p : Pr} {a : Addr}, PrAt C H a p → PrAt C H' a p
  | .choice os, a, h => by
    unfold PrAt at h ⊢
    obtain ⟨t, ps, ⟨dx, h1⟩, h2, h3⟩ := h
    exact ⟨t, ps, ⟨dx, e.ins _ _ _ _ h1⟩, e.tup _ _ h2, OfsAt.keep e h3⟩
  | .new n k r, a, h => by
    unfold PrAt at h ⊢
    obtain ⟨t, b, ⟨dx, h1⟩, h2, h3⟩ := h
    exact ⟨t, b, ⟨dx, e.ins _ _ _ _ h1⟩, e.tup _ _ h2, PrAt.keep e h3⟩
  | .cond l r y n, a, h => by
    unfold PrAt at h ⊢
    obtain ⟨t, b, c, ⟨dx, h1⟩, h2, h3, h4⟩ := h
    exact ⟨t, b, c, ⟨dx, e.ins _ _ _ _ h1⟩, e.tup _ _ h2, PrAt.keep e h3, PrAt.keep e h4⟩
  | .call n ops, a, h => by
    unfold PrAt at h ⊢
    obtain ⟨t, u, ⟨dx, h1⟩, h2, h3⟩ := h
    exact ⟨t, u, ⟨dx, e.ins _ _ _ _ h1⟩, e.tup _ _ h2, e.tup _ _ h3⟩
theorem OfsAt.keep {C : Addr} {H H' : Hp} (e : ExN H H') : ∀ {os : Ofs} {ps : List V}, OfsAt C H ps os → OfsAt C H' ps os
  | .nil, ps, h => by
    unfold OfsAt at h ⊢
    exact h
  | .cons c s m op ns r os, ps, h => by
    unfold OfsAt at h ⊢
    obtain ⟨o, u, b, qs, h1, h2, h3, h4, h5⟩ := h
    exact ⟨o, u, b, qs, h1, e.tup _ _ h2, e.tup _ _ h3, PrAt.keep e h4, OfsAt.keep e h5⟩
end
/-- item by item -/
def LsA {α : Type} (R : Hp → V → α → Prop) (H : Hp) : List V → List α → Prop
  | [], [] => True
  | v :: vs, x :: xs => R H v x ∧ LsA R H vs xs
  | _, _ => False
section
variable {α : Type} {R : Hp → V → α → Prop} {H H' : Hp}
theorem LsA.imp (e : ∀ v x, R H v x → R H' v x) : ∀ {vs : List V} {xs : List α}, LsA R H vs xs → LsA R H' vs xs
  | [], [], _ => True.intro
  | _ :: _, _ :: _, h => ⟨e _ _ h.1, LsA.imp e h.2⟩
  | [], _ :: _, h => h.elim
  | _ :: _, [], h => h.elim
theorem LsA.append : ∀ {vs ws : List V} {xs ys : List α}, LsA R H vs xs → LsA R H ws ys → LsA R H (vs ++ ws) (xs ++ ys)
  | [], _, [], _, _, g => g
  | _ :: _, _, _ :: _, _, h, g => ⟨h.1, LsA.append h.2 g⟩
  | [], _, _ :: _, _, h, _ => h.elim
  | _ :: _, _, [], _, h, _ => h.elim
theorem LsA.snoc {v : V} {x : α} {vs : List V} {xs : List α} (h : LsA R H vs xs) (hv : R H v x) : LsA R H (vs ++ [v]) (xs ++ [x]) := h.append ⟨hv, True.intro⟩
theorem LsA.length : ∀ {vs : List V} {xs : List α}, LsA R H vs xs → vs.length = xs.length
  | [], [], _ => rfl
  | _ :: _, _ :: _, h => congrArg (· + 1) (LsA.length h.2)
  | [], _ :: _, h => h.elim
  | _ :: _, [], h => h.elim
theorem LsA.get : ∀ {vs : List V} {xs : List α} {i : Nat} {v : V}, LsA R H vs xs → vs[i]? = some v → ∃ x, xs[i]? = some x ∧ R H v x
  | _ :: _, x :: _, 0, v, h, e => ⟨x, rfl, by cases e; exact h.1⟩
  | _ :: _, _ :: _, i + 1, v, h, e => LsA.get (i := i) h.2 e
  | [], _, _, _, _, e => by simp at e
  | _ :: _, [], _, _, h, _ => h.elim
theorem LsA.at_ {vs : List V} {xs : List α} {i : Nat} (h : LsA R H vs xs) (hi : i < vs.length) : ∃ v x, vs[i]? = some v ∧ xs[i]? = some x ∧ R H v x := by
  obtain ⟨x, h1, h2⟩ := LsA.get h (List.getElem?_eq_getElem hi)
  exact ⟨_, x, List.getElem?_eq_getElem hi, h1, h2⟩
end
/-- it evaluates to something with this word -/
def EvS (te : TE) (σ : L2.St) (H : Hp) (Pv : V → Hp → Prop) : Prop := ∀ H1, Ex H H1 → ∀ Q : VK, (∀ v H2, Ex H1 H2 → Pv v H2 → Q v H2) → te σ H1 Q
section
variable {σ : L2.St} {H : Hp} {te ta : TE} {Pv : V → Hp → Prop} {K : PySem.W.Frag} {D : Ends} {tz : TS}
theorem s_appS {l : Addr} {xs : List V} (hl : H l = some (.lst xs)) (ha : Ev ta σ H (.ref l)) (h : EvS te σ H Pv) (hz : xs.length < 100000) (k : ∀ v H1, Ex H H1 → Pv v H1 → D.nx σ (upd H1 l (.lst (xs ++ [v])))) :
    tDrop (tBM K "list" rAppend ta (tCons te tNil)) D σ H := ha H (Ex.refl H) _ fun H1 e1 =>
  ⟨Or.inl ⟨rfl, xs, sq_of (e1 l _ hl)⟩, h H1 e1 _ fun v H2 e2 hv => ⟨l, xs, v, rfl, rfl, e2 l _ (e1 l _ hl), sz_lt hz, k v H2 (e1.trans e2) hv⟩⟩
theorem q_asgS {i : Nat} (h : EvS te σ H Pv) (k : ∀ v H1, Ex H H1 → Pv v H1 → tz D (σ.set i (some v)) H1) : tSeq (tAsg te (gName i)) tz D σ H := h H (Ex.refl H) _ fun v H1 e1 hv => k v H1 e1 hv
theorem s_retS (h : EvS te σ H Pv) (k : ∀ v H1, Ex H H1 → Pv v H1 → D.rt v H1) : tRet te D σ H := h H (Ex.refl H) _ fun v H1 e1 hv => k v H1 e1 hv
/-- a slice of a new list -/
theorem el_slN {tl th : TO} {xs : List V} {lo hi : Option Int} (h : EvL te σ H xs) (h1 : EvO tl σ H lo) (h2 : EvO th σ H hi) : EvL (tSl (rSlL K) te tl th) σ H (cutV xs lo hi) := fun H1 e Q q =>
  h H1 e _ fun a H2 ha e2 h2' => h1 H2 (e.trans e2) _ fun H3 e3 => h2 H3 ((e.trans e2).trans e3) _ fun H4 e4 =>
    ⟨a, xs, rfl, sq_of ((e3.trans e4) _ _ h2'), fun p hp => q p _ (fresh_back ((e2.trans e3).trans e4) hp) (((e2.trans e3).trans e4).trans (Ex.new hp)) upd_same⟩
end
end FsK

set_option Elab.async false
set_option linter.all false
set_option maxRecDepth 100000
set_option maxHeartbeats 2000000
/-! o[i] and len(o) by an own class's __getitem__ and __len__; d.update(e); a statement that is never met. -/
namespace FsR
open PySem PySem.Spec PyProof.Rows L2
theorem run_atS {X : Cx} {CX : CXT} {k : Nat} {f : Addr} {fd : FuncData} {ps : List Str} {sp : Sp} {E : L2.St → XK} {pins : List (Addr × Obj)} {σ : L2.St} {H : Hp} {s : Shared} {Q : VK} {us : List Value} {vs : List V} {A : Around} (F : FnOk X.prog X.w X.K X.mg X.base CX k f fd ps sp) (hr : Room k A)
    (he : Env0 X.prog X.w X.K X.mg X.base A X.stack s H) (hb : Binds X.K fd ps []) (hx : PassesAt CX X σ (E σ))
    (I : Inv X pins σ H s) (r : Vals vs us) (h : sp vs H Q (E σ)) : wpAny (model X.prog X.w) A (call (.ref f) us) (EP X pins σ Q) X.xe s := by
  have hl : us.length = ps.length := by rw [← r.length]; exact F.len _ _ _ _ h
  have b := hb s us I.kIn (by rw [List.append_nil]; exact hl)
  rw [List.append_nil] at b
  refine wpAny_call (codeAny_mono (F.run A X.stack s H ⟨us, []⟩ us vs Q (E σ) hr he b r h) fun r s' hq => ?_)
  cases r with
  | error e => exact hx pins H s e s' I hq
  | ok fl =>
    cases fl with
    | ret u => exact I.after hq
    | next => exact False.elim hq
    | brk => exact False.elim hq
    | cont => exact False.elim hq
structure IxM (K : PySem.W.Frag) (C : Addr) (g : Addr) : Prop where
  at_ : PySem.W.findIn K (.ref C) "__getitem__" = some (some (.ref g))
  fn : PySem.W.isFn K (.ref g) = true
  fi : PySem.W.fnIn K g = true
/-- o[i] -/
def tIxO (C : Addr) (sp : Sp) (E : L2.St → XK) (ta tb : TE) : TE := fun σ H Q => ta σ H fun x H1 => tb σ H1 fun y H2 => ∃ (a dx : Addr) (fs : List (Str × V)), x = .ref a ∧ H2 a = some (.ins C dx fs) ∧ sp [.ref a, y] H2 Q (E σ)
theorem pe_ixO {X : Cx} {CX : CXT} {k : Nat} {C g : Addr} {fd : FuncData} {ps : List Str} {sp : Sp} {E : L2.St → XK} {ea eb : Expr} {pos : Pos} {ta tb : TE} (ha : PE X ea ta) (hb : PE X eb tb) (M : IxM X.K C g) (F : FnOk X.prog X.w X.K X.mg X.base CX k g fd ps sp) (hr : Room (k + 1) X.A) (hd : Binds X.K fd ps [])
    (hx : ∀ σ, PassesAt CX X σ (E σ)) (hsl : ∀ v i, subscripted eb true v i = runValue (.builtin "lifetime.subscript" ⟨[v, i], []⟩) := by intro _ _; with_unfolding_all rfl) : PE X (.Subscript ea eb pos) (tIxO C sp E ta tb) := by
  refine ⟨fun pins s σ H Q I h => ?_⟩
  refine Subscript_ (binT ha hb I h fun v u s2 x y H2 I2 rx ry q => ?_)
  obtain ⟨a, dx, fs, rfl, h1, q⟩ := q
  obtain rfl : v = Value.ref a := rx
  obtain ⟨_, O1, _, _, _, _⟩ := ins_get I2.hok h1
  obtain ⟨_, i1, _⟩ := O1.look
  obtain ⟨m, fr⟩ := I2.fr
  refine PySem.W.sub_K fr I2.ok.mod.kin i1 M.at_ M.fi M.fn ?_ (hsl _ _)
  exact run_atS (us := [.ref a, u]) (vs := [.ref a, y]) F hr.in1 I2.env0.in1 hd (hx σ) I2 (.cons rfl (.cons ry .nil)) q
structure LenM (K : PySem.W.Frag) (C : Addr) (g : Addr) : Prop where
  at_ : PySem.W.findIn K (.ref C) "__len__" = some (some (.ref g))
  fn : PySem.W.isFn K (.ref g) = true
/-- len(o) -/
def rLenO (C : Addr) (sp : Sp) (E : XK) : List V → Hp → VK → Prop := fun xs H Q => ∃ (a dx : Addr) (fs : List (Str × V)), xs = [.ref a] ∧ H a = some (.ins C dx fs) ∧ sp [.ref a] H (fun v H' => ∃ n : Nat, v = .int (n : Int) ∧ (n : Int) < 2 ^ 63 ∧ Q (.int (n : Int)) H') E
theorem call_lenO {X : Cx} {CX : CXT} {k : Nat} {C g : Addr} {fd : FuncData} {ps : List Str} {sp : Sp} {E : XK} (M : LenM X.K C g) (F : FnOk X.prog X.w X.K X.mg X.base CX k g fd ps sp) (hr : Room (k + 1) X.A) (hd : Binds X.K fd ps [])
    (hx : ∀ σ, PassesAt CX X σ E) : CallR X (.builtin "len") (rLenO C sp E) := by
  intro pins s σ H xs us Q I r h
  obtain ⟨a, dx, fs, rfl, h1, q⟩ := h
  obtain ⟨u, rfl, ru⟩ := vals1 r
  obtain rfl : u = Value.ref a := ru
  obtain ⟨_, O1, _, _, _, _⟩ := ins_get I.hok h1
  obtain ⟨_, i1, _⟩ := O1.look
  obtain ⟨m, fr⟩ := I.fr
  refine PySem.W.len_K fr I.ok.mod.kin i1 M.at_ M.fn (wpAny_mono (run_atS (E := fun _ => E) (us := [.ref a]) (vs := [.ref a]) F hr.in1 I.env0.in1 hd (hx σ) I (.cons rfl .nil) q) (fun w s' z => ?_) fun _ _ x => x)
  obtain ⟨v, H', J, rv, n, ev, hn, q'⟩ := z
  subst ev
  obtain ⟨t, rfl⟩ := rv
  exact ⟨⟨by omega, hn⟩, .int (n : Int), H', J.tok _, ⟨_, rfl⟩, q'⟩
/-- d.update(e) -/
def rUpd : V → List V → Hp → VK → Prop := fun x vs H Q => ∃ (d o : Addr) (kvs more : List (Key × V)), x = .ref d ∧ vs = [.ref o] ∧ d ≠ o ∧ H d = some (.dK kvs) ∧ H o = some (.dK more) ∧ kvs.length + more.length ≤ 100000 ∧ Q .non (upd H d (.dK (mergeK kvs more)))
theorem mt_update {X : Cx} : MtR X "dict.update" rUpd := by
  intro pins s σ H x xs v us Q I rx rv h
  obtain ⟨d, o, kvs, more, rfl, rfl, hne, hd, ho, hz, q⟩ := h
  obtain rfl : v = Value.ref d := rx
  obtain ⟨u, rfl, ru⟩ := vals1 rv
  obtain rfl : u = Value.ref o := ru
  obtain ⟨z1, y1, v1, r1, d1⟩ := dk_of I.hok hd
  obtain ⟨z2, y2, v2, r2, d2⟩ := dk_of I.hok ho
  have hl : v1.length + v2.length ≤ sizeLine := by
    rw [← r1.length, ← r2.length, sizeLine_eq]
    omega
  refine call_meetsIn PySem.F.slot_dict_update d1.typeIs PySem.F.entry_dict_update (PySem.F.args_dict_update_2 _ _) (meets_dict_update (mixKind X.prog X.w) d o hne y2)
    ⟨v1, v2, d1, d2, hl, fun h' dd' _ hs => ?_⟩
  have he : ∃ q, h'.get? d = some q := let ⟨q, _, _, hq, _⟩ := dd'; ⟨q, hq⟩
  refine ⟨.non, _, d_write I (by rw [hd]; exact True.intro) hs he (dk_new ?_ y1 (r2.merge r1) dd'), rfl, q⟩
  have := length_mergeK more kvs
  rw [sizeLine_eq]
  omega
end FsR

set_option Elab.async false
set_option linter.all false
set_option maxRecDepth 100000
set_option maxHeartbeats 2000000
/-! name = {k: v for ..} on one line. -/
namespace L2
open PySem PySem.Spec PyProof.Rows
theorem ps_setDc {X : Cx} {i : Nat} {y : Str} {py : Pos} {kx vx tg iter : Expr} {ifs : List Expr} {scope : Scope} {own : List (Str × Nat)} {pos spos : Pos} {wi : TI} {g : TG} {tt : TT} {tk tv : TE} (hc : X.calm = true) (hN : X.N.Nodup) (hy : X.N[i]? = some y) (hyl : X.env.scope.names.lookup y = some .local)
    (hsw : swapsWith (.DictComp kx vx [⟨tg, iter, ifs, 0⟩] scope pos) (some (.Name y py)) spos.line X.env = pure true) (hi : PI X tg iter wi) (ok : BlkOk X.N X.env.scope scope own)
    (hg : ∀ (s : Shared) (H : Hp) (C : Addr) (cl : List (Str × Addr)) (fp : List Addr), PG (X.blk s H scope (compEnvC scope cl C X.env) fp) tg g) (ht : ∀ (s : Shared) (H : Hp) (C : Addr) (cl : List (Str × Addr)) (fp : List Addr), PTs (X.blk s H scope (compEnvC scope cl C X.env) fp) ifs tt)
    (hk : ∀ (s : Shared) (H : Hp) (C : Addr) (cl : List (Str × Addr)) (fp : List Addr), PE (X.blk s H scope (compEnvC scope cl C X.env) fp) kx tk)
    (he : ∀ (s : Shared) (H : Hp) (C : Addr) (cl : List (Str × Addr)) (fp : List Addr), PE (X.blk s H scope (compEnvC scope cl C X.env) fp) vx tv) (hs : ∀ x, foldedSetIterable iter X.env x = pure x := by intro _; rfl) :
    PS X (.Assign [.Name y py] (.DictComp kx vx [⟨tg, iter, ifs, 0⟩] scope pos) spos) (tAsg (tDc wi g tt tk tv (own.map (·.2))) (gName i)) := by
  refine ⟨fun pins s σ H D I h => ?_⟩
  rw [exec_Assign_Name_used _ _ _ _ hsw]
  refine wpAny_bind (wpAny_standAt (wpAny_bind ?_))
  show wpAny _ X.A (do let _ ← comprehension (.DictComp kx vx [⟨tg, iter, ifs, 0⟩] scope pos) scope X.env (firstIterPos [⟨tg, iter, ifs, 0⟩] pos) newDict false (eval iter X.env) (some (assign (.Name y py) X.env))) _ _ s
  have h : tDc wi g tt tk tv (own.map (·.2)) σ H (fun x H1 => gName i x σ H1 D.nx) := h
  refine wpAny_bind (thn (dc_core (Qf := fun _ s' => SP X pins D .next s') hc hN I hi ok hg ht hk he hs h fun L C s' m H' I' q hn f => ?_) fun _ s' hq => wpAny_pure (wpAny_pure hq))
  show wpAny _ _ (assign (.Name y py) X.env (.ref L)) _ _ _
  refine wpAny_assign_Name (store_ok2 (v := V.ref L) I' hN hy (.inl hyl) rfl (fun s2 I2 ⟨a, sb, ha⟩ => ?_) (.inr hyl))
  obtain ⟨f0, f1, f2, f3, f4, f5⟩ := f
  have haC : C ≠ a := by
    rcases ha with z | z
    · rw [z]; exact f1
    · exact fun e => f4 y a z e.symm
  refine ⟨m, hn.sameBut sb haC, fun h3 sb3 => ?_⟩
  exact ⟨_, H', I2.turned (t' := s2.toks) (fun b o hb e => (sb3.2 b hb).trans e) f0 f1 f3 f4 f5, q⟩
theorem sw_trueD {kx vx : Expr} {gs : List Comprehension} {scope : Scope} {pos py : Pos} {y : Str} {l : Nat} {env : Env} (hk : env.scope.kind = .function) (hy : env.scope.names.lookup y = some .local) (hl : (py.line == pos.line) = true)
    (ha : (scope.names.any fun (n, k) => n == y && (k == .local || k == .cell)) = false) : swapsWith (.DictComp kx vx gs scope pos) (some (.Name y py)) l env = pure true := by
  have ky : env.kindOf y = some .local := hy
  have hb : env.blockKind = .function := by unfold Env.blockKind; rw [hk]; rfl
  unfold swapsWith
  simp only [hb, ky, ha, Expr.pos, hl]
  rfl
end L2

set_option Elab.async false
set_option linter.all false
set_option maxRecDepth 100000
set_option maxHeartbeats 2000000
/-! xs != [], xs == []. -/
namespace FsR
open PySem PySem.Spec PyProof.Rows L2 Evl
def rNeNil (K : PySem.W.Frag) : R2 := fun x y H Q => ∃ (a b : Addr) (xs : List V), x = .ref a ∧ y = .ref b ∧ SqL K H a xs ∧ SqL K H b [] ∧ Q (.bl (!xs.isEmpty)) H
theorem op_neNil {X : Cx} (hu : X.A.units < cLine) : OpR X (compareOp .NotEq) (rNeNil X.K) := by
  intro pins s σ H x y v u Q I rx ry h
  obtain ⟨a, b, xs, rfl, rfl, ha, hb, q⟩ := h
  obtain rfl : v = Value.ref a := rx
  obtain rfl : u = Value.ref b := ry
  obtain ⟨us, r1, p1, _⟩ := I.list ha
  obtain ⟨ws, r2, p2, _⟩ := I.list hb
  have hws : ws = [] := by
    cases r2
    rfl
  subst hws
  cases r1 with
  | nil =>
    refine SeqAt.RcNeAt.lists (e := fun _ => true) p1.isList p2.isList rfl hu (fun j h1 _ => by simp at h1) X.prog X.w X.xe _ ?_
    exact ⟨.bl false, H, I, rfl, q⟩
  | cons r rs =>
    refine SeqAt.RcNeAt.lists_lengths p1.isList p2.isList (by simp) hu X.prog X.w X.xe _ ?_
    exact ⟨.bl true, H, I, rfl, q⟩
def rEqNil (K : PySem.W.Frag) : R2 := fun x y H Q => ∃ (a b : Addr) (xs : List V), x = .ref a ∧ y = .ref b ∧ SqL K H a xs ∧ SqL K H b [] ∧ Q (.bl xs.isEmpty) H
theorem op_eqNil {X : Cx} (hu : X.A.units < cLine) : OpR X (compareOp .Eq) (rEqNil X.K) := by
  intro pins s σ H x y v u Q I rx ry h
  obtain ⟨a, b, xs, rfl, rfl, ha, hb, q⟩ := h
  obtain rfl : v = Value.ref a := rx
  obtain rfl : u = Value.ref b := ry
  obtain ⟨us, r1, p1, _⟩ := I.list ha
  obtain ⟨ws, r2, p2, _⟩ := I.list hb
  have hws : ws = [] := by
    cases r2
    rfl
  subst hws
  cases r1 with
  | nil =>
    refine SeqAt.RcAt.lists (e := fun _ => true) p1.isList p2.isList rfl hu (fun j h1 _ => by simp at h1) X.prog X.w X.xe _ ?_
    exact ⟨.bl true, H, I, rfl, q⟩
  | cons r rs =>
    refine SeqAt.RcAt.lists_lengths p1.isList p2.isList (by simp) hu X.prog X.w X.xe _ ?_
    exact ⟨.bl false, H, I, rfl, q⟩
theorem rv_neNil {K : PySem.W.Frag} {H : Hp} {a b : Addr} {xs : List V} (ha : SqL K H a xs) (hb : SqL K H b []) : RV (rNeNil K) (.ref a) (.ref b) H (.bl (!xs.isEmpty)) := fun H1 e _ q => ⟨a, b, xs, rfl, rfl, ex_l e ha, ex_l e hb, q H1 (Ex.refl H1)⟩
theorem rv_eqNil {K : PySem.W.Frag} {H : Hp} {a b : Addr} {xs : List V} (ha : SqL K H a xs) (hb : SqL K H b []) : RV (rEqNil K) (.ref a) (.ref b) H (.bl xs.isEmpty) := fun H1 e _ q => ⟨a, b, xs, rfl, rfl, ex_l e ha, ex_l e hb, q H1 (Ex.refl H1)⟩
end FsR
namespace FsR
open PySem PySem.Spec PyProof.Rows L2 Evl
/-- xs != ys, the same objects in both -/
def rNeSame (K : PySem.W.Frag) : R2 := fun x y H Q => ∃ (a b : Addr) (xs : List V), x = .ref a ∧ y = .ref b ∧ SqL K H a xs ∧ SqL K H b xs ∧ (∀ v ∈ xs, ∃ c, v = V.ref c) ∧ Q (.bl false) H
theorem vals_refs : ∀ {xs : List V} {us ws : List Value}, (∀ v ∈ xs, ∃ c, v = V.ref c) → Vals xs us → Vals xs ws → us = ws
  | _, _, _, _, .nil, .nil => rfl
  | x :: xs, _ :: _, _ :: _, h, .cons r rs, .cons t ts => by
    obtain ⟨c, rfl⟩ := h x List.mem_cons_self
    cases r
    cases t
    rw [vals_refs (fun v hv => h v (List.mem_cons_of_mem _ hv)) rs ts]
theorem op_neSame {X : Cx} (hu : X.A.units < cLine) : OpR X (compareOp .NotEq) (rNeSame X.K) := by
  intro pins s σ H x y v u Q I rx ry h
  obtain ⟨a, b, xs, rfl, rfl, ha, hb, hx, q⟩ := h
  obtain rfl : v = Value.ref a := rx
  obtain rfl : u = Value.ref b := ry
  obtain ⟨us, r1, p1, _⟩ := I.list ha
  obtain ⟨ws, r2, p2, _⟩ := I.list hb
  have e := vals_refs hx r1 r2
  subst e
  refine SeqAt.RcNeAt.lists (e := fun _ => true) p1.isList p2.isList rfl hu (fun j h1 _ => SeqAt.EqAt.same _) X.prog X.w X.xe _ ?_
  refine ⟨.bl false, H, I, ?_, q⟩
  show Value.bool _ = Value.bool false
  simp
theorem rv_neSame {K : PySem.W.Frag} {H : Hp} {a b : Addr} {xs : List V} (ha : SqL K H a xs) (hb : SqL K H b xs) (hx : ∀ v ∈ xs, ∃ c, v = V.ref c) : RV (rNeSame K) (.ref a) (.ref b) H (.bl false) := fun H1 e _ q => ⟨a, b, xs, rfl, rfl, ex_l e ha, ex_l e hb, hx, q H1 (Ex.refl H1)⟩
end FsR

set_option Elab.async false
set_option linter.all false
set_option maxRecDepth 100000
set_option maxHeartbeats 4000000
/-! meetings in the form in which they are sorted: (channel, ((machine, turn, place, (is a channel, value)), ..)); their order, and how the machine compares them. -/
namespace Mgs
open PySem PySem.SeqAt PyProof.Rows PySem.W
abbrev Chan := T3 Int Int Int
inductive Vl
  | int (i : Int)
  | ch (c : Chan)
  deriving DecidableEq
instance : Datum Vl where
  toD
    | .int i => .tuple [.bool false, .int i]
    | .ch c => .tuple [.bool true, Datum.toD c]
  plain
    | .int i => by simp only [PyData.plain, PyData.plainAll, Bool.and_self]
    | .ch c => by simp only [PyData.plain, PyData.plainAll, Datum.plain, Bool.and_self]
  eqv
    | .int i, .int j => by
      simp only [PyData.eqv, PyData.eqvAll]
      simp [beq_decide]
    | .int i, .ch d => by
      simp only [PyData.eqv, PyData.eqvAll]
      simp
    | .ch c, .int j => by
      simp only [PyData.eqv, PyData.eqvAll]
      simp
    | .ch c, .ch d => by
      simp only [PyData.eqv, PyData.eqvAll]
      rw [Datum.eqv]
      simp
  depth := 2
  depth_le
    | .int i => by simp only [PyData.depth, PyData.depthAll]; omega
    | .ch c => by
      have := Datum.depth_le c
      have h : Datum.depth Chan = 1 := rfl
      simp only [PyData.depth, PyData.depthAll]
      omega
abbrev Prt := T4 Int Int Int Vl
abbrev Mg := Chan × Tup Prt
/-! the order -/
def lexI : List Int → List Int → Bool
  | [], [] => false
  | [], _ :: _ => true
  | _ :: _, [] => false
  | x :: xs, y :: ys => if x = y then lexI xs ys else decide (x < y)
theorem lexI_irr : ∀ xs, lexI xs xs = false
  | [] => rfl
  | x :: xs => by
    unfold lexI
    rw [if_pos rfl]
    exact lexI_irr xs
theorem lexI_asym : ∀ xs ys, lexI xs ys = true → lexI ys xs = false
  | [], [], h => by cases h
  | [], _ :: _, _ => rfl
  | _ :: _, [], h => by cases h
  | x :: xs, y :: ys, h => by
    unfold lexI at h ⊢
    by_cases e : x = y
    · rw [if_pos e] at h
      rw [if_pos e.symm]
      exact lexI_asym xs ys h
    · rw [if_neg e] at h
      rw [if_neg (Ne.symm e)]
      have := of_decide_eq_true h
      exact decide_eq_false (by omega)
theorem lexI_tr : ∀ xs ys zs, lexI ys xs = false → lexI zs ys = false → lexI zs xs = false
  | xs, ys, [], h1, h2 => by
    cases ys with
    | nil => exact h1
    | cons y ys => cases h2
  | [], _, _ :: _, _, _ => rfl
  | x :: xs, [], z :: zs, h1, _ => by cases h1
  | x :: xs, y :: ys, z :: zs, h1, h2 => by
    unfold lexI at h1 h2 ⊢
    by_cases e1 : y = x
    · rw [if_pos e1] at h1
      subst e1
      by_cases e2 : z = y
      · rw [if_pos e2] at h2 ⊢
        exact lexI_tr xs ys zs h1 h2
      · rw [if_neg e2] at h2 ⊢
        exact h2
    · rw [if_neg e1] at h1
      have a := of_decide_eq_false h1
      by_cases e2 : z = y
      · subst e2
        rw [if_neg e1]
        exact h1
      · rw [if_neg e2] at h2
        have b := of_decide_eq_false h2
        rw [if_neg (by omega)]
        exact decide_eq_false (by omega)
theorem lexI_eq : ∀ xs ys, lexI xs ys = false → lexI ys xs = false → xs = ys
  | [], [], _, _ => rfl
  | [], _ :: _, h, _ => by cases h
  | _ :: _, [], _, h => by cases h
  | x :: xs, y :: ys, h1, h2 => by
    unfold lexI at h1 h2
    by_cases e : x = y
    · subst e
      rw [if_pos rfl] at h1 h2
      rw [lexI_eq xs ys h1 h2]
    · rw [if_neg e] at h1
      rw [if_neg (Ne.symm e)] at h2
      have a := of_decide_eq_false h1
      have b := of_decide_eq_false h2
      omega
def ltC (c d : Chan) : Bool := if c.a = d.a then (if c.b = d.b then decide (c.c < d.c) else decide (c.b < d.b)) else decide (c.a < d.a)
def ltV : Vl → Vl → Bool
  | .int i, .int j => decide (i < j)
  | .int _, .ch _ => true
  | .ch _, .int _ => false
  | .ch c, .ch d => ltC c d
def ltP (p q : Prt) : Bool := if p.a = q.a then (if p.b = q.b then (if p.c = q.c then ltV p.d q.d else decide (p.c < q.c)) else decide (p.b < q.b)) else decide (p.a < q.a)
def ltPs : List Prt → List Prt → Bool
  | [], [] => false
  | [], _ :: _ => true
  | _ :: _, [] => false
  | x :: xs, y :: ys => if x = y then ltPs xs ys else ltP x y
def ltM (m n : Mg) : Bool := if m.1 = n.1 then ltPs m.2.items n.2.items else ltC m.1 n.1
/-! as lists of ints -/
def cC (c : Chan) : List Int := [c.a, c.b, c.c]
def cV : Vl → List Int
  | .int i => [0, i]
  | .ch c => 1 :: cC c
def cP (p : Prt) : List Int := p.a :: p.b :: p.c :: cV p.d
def cPs : List Prt → List Int
  | [] => []
  | p :: ps => cP p ++ cPs ps
def cM (m : Mg) : List Int := cC m.1 ++ cPs m.2.items
theorem lexI_hd {x y : Int} {xs ys : List Int} : lexI (x :: xs) (y :: ys) = if x = y then lexI xs ys else decide (x < y) := by
  rw [lexI]
theorem lexI_app (a x y : List Int) : lexI (a ++ x) (a ++ y) = lexI x y := by
  induction a with
  | nil => rfl
  | cons z a ih =>
    show lexI (z :: (a ++ x)) (z :: (a ++ y)) = _
    rw [lexI_hd, if_pos rfl, ih]
theorem c_cC {c d : Chan} (h : c ≠ d) (l m : List Int) : lexI (cC c ++ l) (cC d ++ m) = ltC c d := by
  show lexI (c.a :: c.b :: c.c :: l) (d.a :: d.b :: d.c :: m) = _
  unfold ltC
  rw [lexI_hd]
  by_cases h1 : c.a = d.a
  · rw [if_pos h1, if_pos h1, lexI_hd]
    by_cases h2 : c.b = d.b
    · rw [if_pos h2, if_pos h2, lexI_hd]
      by_cases h3 : c.c = d.c
      · exact absurd (T3.same h1 h2 h3) h
      · rw [if_neg h3]
    · rw [if_neg h2, if_neg h2]
  · rw [if_neg h1, if_neg h1]
theorem c_cV {c d : Vl} (h : c ≠ d) (l m : List Int) : lexI (cV c ++ l) (cV d ++ m) = ltV c d := by
  cases c with
  | int i =>
    cases d with
    | int j =>
      show lexI (0 :: i :: l) (0 :: j :: m) = decide (i < j)
      rw [lexI_hd, if_pos rfl, lexI_hd, if_neg (fun e => h (by rw [e]))]
    | ch d => rfl
  | ch c =>
    cases d with
    | int j => rfl
    | ch d =>
      show lexI (1 :: (cC c ++ l)) (1 :: (cC d ++ m)) = ltC c d
      rw [lexI_hd, if_pos rfl, c_cC (fun e => h (by rw [e]))]
theorem c_cP {p q : Prt} (h : p ≠ q) (l m : List Int) : lexI (cP p ++ l) (cP q ++ m) = ltP p q := by
  show lexI (p.a :: p.b :: p.c :: (cV p.d ++ l)) (q.a :: q.b :: q.c :: (cV q.d ++ m)) = _
  unfold ltP
  rw [lexI_hd]
  by_cases h1 : p.a = q.a
  · rw [if_pos h1, if_pos h1, lexI_hd]
    by_cases h2 : p.b = q.b
    · rw [if_pos h2, if_pos h2, lexI_hd]
      by_cases h3 : p.c = q.c
      · rw [if_pos h3, if_pos h3, c_cV (fun e => h (T4.same h1 h2 h3 e))]
      · rw [if_neg h3, if_neg h3]
    · rw [if_neg h2, if_neg h2]
  · rw [if_neg h1, if_neg h1]
theorem c_cPs : ∀ xs ys : List Prt, lexI (cPs xs) (cPs ys) = ltPs xs ys
  | [], [] => rfl
  | [], y :: ys => rfl
  | x :: xs, [] => rfl
  | x :: xs, y :: ys => by
    show lexI (cP x ++ cPs xs) (cP y ++ cPs ys) = _
    rw [ltPs]
    by_cases h : x = y
    · subst h
      rw [if_pos rfl, lexI_app, c_cPs xs ys]
    · rw [if_neg h, c_cP h]
theorem c_cM (m n : Mg) : lexI (cM m) (cM n) = ltM m n := by
  show lexI (cC m.1 ++ cPs m.2.items) (cC n.1 ++ cPs n.2.items) = _
  unfold ltM
  by_cases h : m.1 = n.1
  · rw [if_pos h, h, lexI_app, c_cPs]
  · rw [if_neg h, c_cC h]
theorem ltC_tot {c d : Chan} (h1 : ltC c d = false) (h2 : ltC d c = false) : c = d := by
  by_cases h : c = d
  · exact h
  · have a := c_cC h [] []
    have b := c_cC (Ne.symm h) [] []
    rw [h1] at a
    rw [h2] at b
    have e := lexI_eq _ _ a b
    rw [List.append_nil, List.append_nil] at e
    injection e with e1 e
    injection e with e2 e
    injection e with e3 e
    exact T3.same e1 e2 e3
theorem cV_inj {c d : Vl} {l m : List Int} (h : cV c ++ l = cV d ++ m) : c = d ∧ l = m := by
  cases c with
  | int i =>
    cases d with
    | int j =>
      injection h with _ h
      injection h with h1 h
      exact ⟨by rw [h1], h⟩
    | ch d =>
      injection h with h _
      cases h
  | ch c =>
    cases d with
    | int j =>
      injection h with h _
      cases h
    | ch d =>
      injection h with _ h
      injection h with h1 h
      injection h with h2 h
      injection h with h3 h
      exact ⟨by rw [T3.same h1 h2 h3], h⟩
theorem cPs_inj : ∀ {xs ys : List Prt}, cPs xs = cPs ys → xs = ys
  | [], [], _ => rfl
  | [], _ :: _, h => by cases h
  | _ :: _, [], h => by cases h
  | x :: xs, y :: ys, h => by
    have h' : x.a :: x.b :: x.c :: (cV x.d ++ cPs xs) = y.a :: y.b :: y.c :: (cV y.d ++ cPs ys) := h
    injection h' with h1 h'
    injection h' with h2 h'
    injection h' with h3 h'
    obtain ⟨h4, h5⟩ := cV_inj h'
    rw [T4.same h1 h2 h3 h4, cPs_inj h5]
theorem cM_inj {m n : Mg} (h : cM m = cM n) : m = n := by
  obtain ⟨c, ⟨ps⟩⟩ := m
  obtain ⟨d, ⟨qs⟩⟩ := n
  have h' : c.a :: c.b :: c.c :: cPs ps = d.a :: d.b :: d.c :: cPs qs := h
  injection h' with h1 h'
  injection h' with h2 h'
  injection h' with h3 h'
  rw [T3.same h1 h2 h3, cPs_inj h']
theorem ltM_tot {m n : Mg} (h1 : ltM m n = false) (h2 : ltM n m = false) : m = n := by
  rw [← c_cM] at h1 h2
  exact cM_inj (lexI_eq _ _ h1 h2)
theorem ltM_swo {α : Type} (k : α → Mg) : SrtO.Swo fun x y => ltM (k x) (k y) := by
  refine ⟨fun x y h => ?_, fun x y z h1 h2 => ?_⟩
  · rw [← c_cM] at h ⊢
    exact lexI_asym _ _ h
  · rw [← c_cM] at h1 h2 ⊢
    exact lexI_tr _ _ _ h1 h2
/-- two sorted lists of the same meetings are one -/
theorem srt_uniq : ∀ {l m : List Mg}, SrtO.Srtd ltM l → SrtO.Srtd ltM m → l.Perm m → l = m := by
  intro l m hl hm hp
  refine SrtO.stb_uniq (ltM_swo id) hl hm ⟨hp, fun x => ?_⟩
  have e : (SrtO.eqv ltM x) = fun y => decide (x = y) := funext fun y => by
    by_cases h : x = y
    · subst h
      rw [decide_eq_true rfl]
      exact SrtO.eqv_iff.mpr ⟨(ltM_swo id).refl x, (ltM_swo id).refl x⟩
    · rw [decide_eq_false h]
      refine Bool.eq_false_iff.mpr fun z => h ?_
      obtain ⟨z1, z2⟩ := SrtO.eqv_iff.mp z
      exact ltM_tot z1 z2
  show l.filter (SrtO.eqv ltM x) = m.filter (SrtO.eqv ltM x)
  rw [e]
  have f := hp.filter (fun y => decide (x = y))
  have all : ∀ k : List Mg, k.filter (fun y => decide (x = y)) = List.replicate (k.filter (fun y => decide (x = y))).length x := fun k => List.eq_replicate_of_mem fun y hy => by
    have := (List.mem_filter.mp hy).2
    exact (of_decide_eq_true this).symm
  rw [all l, all m, f.length_eq]
end Mgs

set_option Elab.async false
set_option linter.all false
set_option maxRecDepth 100000
set_option maxHeartbeats 4000000
/-! how the machine compares two meetings in that form; sorted of such -/
namespace Mgs
open PySem PySem.SeqAt PyProof.Rows PySem.W
open AutoSeq1 (wpAny_loadPart')
open MeetsSeq MeetsSeq2 MeetsSeq3 SeqRoads2
section
/-- two pairs of which the first items differ and decide -/
theorem heads_lt (l b : Addr) (x y v u : Value) (k : Bool) (n n2 : Nat) (dd dd2 : Option Addr) (sl sl2 : Array (Option Value)) :
    Meets (Builtin.«tuple.__lt__» ⟨[.ref l, .ref b], []⟩)
      (fun A R s => s.heap.get? l = some { cls := .type "tuple", dict := dd, data := .seq #[x, v] n, slots := sl } ∧ s.heap.get? b = some { cls := .type "tuple", dict := dd2, data := .seq #[y, u] n2, slots := sl2 } ∧
        EqAt A.in1 s x y false ∧ RcLt A.in1 s x y k ∧ R (.ok (.ret (.bool k))) s) :=
  .of_wp fun prog w A R s ⟨hl, hb, hq, hr, h⟩ => by
    obtain ⟨hp, g, d, tk, os⟩ := s
    have f2 := AutoSeq1.sub_tuple_tuple
    wp_walk using wpAny_loadPart' hl, wpAny_loadPart' hb, wpAny_forIn_list _ (fun rest b s' => b.1 = none ∧ s' = ⟨hp, g, d, tk, os⟩ ∧ rest = [(x, y), (v, u)]) _
    case turn =>
      rintro ⟨x1, y1⟩ rest b s' ⟨hb', rfl, hz⟩
      injection hz with h1 h2
      injection h1 with h3 h4
      subst h3 h4
      refine wpAny_bind (hq prog w _ _ ?_)
      refine wpAny_ite_split (fun _ => ?_) (fun z => absurd rfl z)
      refine wpAny_bind (wpAny_rule ?_)
      refine wpAny_bind (hr prog w _ _ ?_)
      wp_walk
      exact ⟨_, rfl, h⟩
    case fin =>
      rintro ⟨b1, b2⟩ s' ⟨hb', rfl, hz⟩
      cases hz
    case h =>
      exact ⟨rfl, rfl, rfl⟩
end
section
theorem rcLt_bools {A : Around} {s : Shared} {l b : Addr} {p q : Bool} {v u : Value} (hl : s.heap.IsTuple l #[.bool p, v]) (hb : s.heap.IsTuple b #[.bool q, u]) (hu : A.units < cLine) (hne : p ≠ q) (hr : RcLt A.in1 s (.bool p) (.bool q) (!p && q)) :
    RcLt A s (.ref l) (.ref b) (!p && q) := fun prog w E Q h => by
  obtain ⟨⟨c1, d1, a1, s1⟩, ho, hc, n, hd⟩ := id hl
  obtain ⟨⟨c2, d2, a2, s2⟩, ho2, hc2, n2, hd2⟩ := id hb
  simp only at hc hd hc2 hd2
  subst hc hd hc2 hd2
  exact richCompare_meets_room (op := .Lt) ⟨_, ho, rfl⟩ ⟨_, ho2, rfl⟩ F.slot_tuple_lt F.entry_tuple_lt (F.args_tuple_lt_2 _ _) (heads_lt l b (.bool p) (.bool q) v u (!p && q) n n2 d1 d2 s1 s2) ⟨ho, ho2, (show (p == q) = false from beq_eq_false_iff_ne.mpr hne) ▸ SeqAt.EqAt.bool_bool p q, hr, show Value.bool (!p && q) ≠ Value.notImplemented ∧ Q (.bool (!p && q)) s from ⟨(fun x => nomatch x), h⟩⟩ hu
end
section
variable {A : Around} {s : Shared} {a b : Value}
theorem rcLt_ord {α : Type} [DecidableEq α] [DatumOrd α] {x y : α} (Ha : Holds s.heap a x) (Hb : Holds s.heap b y) (hu : A.units + Datum.depth α < cLine) : RcLt A s a b (DatumOrd.lt x y) := by
  obtain ⟨as, ra⟩ := Ha
  obtain ⟨bs, rb⟩ := Hb
  rw [← DatumOrd.lt_eq]
  exact rcLt_alike _ _ A s a b as bs ra rb (DatumOrd.alike x y) (DatumOrd.notNone x) (room_datum (Datum.depth_le x) hu)
theorem rcLt_C {x y : Chan} (Ha : Holds s.heap a x) (Hb : Holds s.heap b y) (hu : A.units + 1 < cLine) : RcLt A s a b (ltC x y) := rcLt_ord Ha Hb hu
theorem rcLt_I {x y : Int} (Ha : Holds s.heap a x) (Hb : Holds s.heap b y) (hu : A.units < cLine) : RcLt A s a b (decide (x < y)) := rcLt_ord Ha Hb hu
theorem vl_int {h : Heap} {v : Value} {i : Int} (H : Holds h v (Vl.int i)) : ∃ l w, v = .ref l ∧ h.IsTuple l #[.bool false, w] ∧ Holds h w i := by
  obtain ⟨as, r⟩ := H
  cases r with
  | @tuple l o vs n _ as₁ h1 h2 h3 h4 =>
    obtain ⟨ws⟩ := vs
    change ReadsAll h ws _ _ at h4
    cases h4 with
    | cons ra h4 =>
      cases h4 with
      | cons rb h4 =>
        cases h4
        cases ra
        exact ⟨l, _, rfl, ⟨o, h1, h2, n, h3⟩, ⟨_, rb⟩⟩
theorem vl_ch {h : Heap} {v : Value} {c : Chan} (H : Holds h v (Vl.ch c)) : ∃ l w, v = .ref l ∧ h.IsTuple l #[.bool true, w] ∧ Holds h w c := by
  obtain ⟨as, r⟩ := H
  cases r with
  | @tuple l o vs n _ as₁ h1 h2 h3 h4 =>
    obtain ⟨ws⟩ := vs
    change ReadsAll h ws _ _ at h4
    cases h4 with
    | cons ra h4 =>
      cases h4 with
      | cons rb h4 =>
        cases h4
        cases ra
        exact ⟨l, _, rfl, ⟨o, h1, h2, n, h3⟩, ⟨_, rb⟩⟩
theorem ltC_irr (c : Chan) : ltC c c = false := by
  unfold ltC
  rw [if_pos rfl, if_pos rfl]
  exact decide_eq_false (Int.lt_irrefl _)
theorem ltV_irr (c : Vl) : ltV c c = false := by
  cases c with
  | int i => exact decide_eq_false (Int.lt_irrefl _)
  | ch c => exact ltC_irr c
theorem two {P : Nat → Prop} (h0 : P 0) (h1 : P 1) : ∀ j, j < 2 → P j
  | 0, _ => h0
  | 1, _ => h1
  | j + 2, h => absurd h (by omega)
theorem four {P : Nat → Prop} (h0 : P 0) (h1 : P 1) (h2 : P 2) (h3 : P 3) : ∀ j, j < 4 → P j
  | 0, _ => h0
  | 1, _ => h1
  | 2, _ => h2
  | 3, _ => h3
  | j + 4, h => absurd h (by omega)
theorem rcLt_V {x y : Vl} (Ha : Holds s.heap a x) (Hb : Holds s.heap b y) (hu : A.units + 2 < cLine) : RcLt A s a b (ltV x y) := by
  cases x with
  | int i =>
    obtain ⟨l, v, rfl, hl, hv⟩ := vl_int Ha
    cases y with
    | int j =>
      obtain ⟨l', v', rfl, hl', hv'⟩ := vl_int Hb
      have g := RcLt.tuples (A := A) (e := fun k => if k = 0 then true else decide (i = j)) (r := fun _ => decide (i < j)) hl hl' (by omega)
        (fun k h1 _ => two (P := fun k => ∀ (h1 : k < 2) (h2 : k < 2), EqAt A.in1 s (#[Value.bool false, v][k]) (#[Value.bool false, v'][k]) (if k = 0 then true else decide (i = j))) (fun _ _ => SeqAt.EqAt.bool_bool false false) (fun _ _ => eqAt_datum hv hv' (by show A.units + 1 + 0 < cLine; omega)) k h1 h1 h1)
        (fun k h1 _ => two (P := fun k => ∀ (h1 : k < 2) (h2 : k < 2), (if k = 0 then true else decide (i = j)) = false → RcLt A.in1 s (#[Value.bool false, v][k]) (#[Value.bool false, v'][k]) (decide (i < j))) (fun _ _ h => nomatch h) (fun _ _ _ => rcLt_I hv hv' (by show A.units + 1 < cLine; omega)) k h1 h1 h1)
      have e : firstLt (fun k => if k = 0 then true else decide (i = j)) (fun _ => decide (i < j)) (decide ((2 : Nat) < 2)) (List.range (min 2 2)) = ltV (.int i) (.int j) := by
        show (if (true = true) then (if decide (i = j) = true then decide ((2 : Nat) < 2) else decide (i < j)) else _) = decide (i < j)
        rw [if_pos rfl]
        by_cases h : i = j
        · rw [if_pos (decide_eq_true h), h]
          exact (decide_eq_false (Nat.lt_irrefl 2)).trans (decide_eq_false (Int.lt_irrefl j)).symm
        · rw [if_neg (by rw [decide_eq_false h]; decide)]
      rw [← e]
      exact g
    | ch d =>
      obtain ⟨l', v', rfl, hl', hv'⟩ := vl_ch Hb
      exact rcLt_bools hl hl' (by omega) (by decide) (rcLt_ord (holds_bool false) (holds_bool true) (by show A.units + 1 + 0 < cLine; omega))
  | ch c =>
    obtain ⟨l, v, rfl, hl, hv⟩ := vl_ch Ha
    cases y with
    | int j =>
      obtain ⟨l', v', rfl, hl', hv'⟩ := vl_int Hb
      exact rcLt_bools hl hl' (by omega) (by decide) (rcLt_ord (holds_bool true) (holds_bool false) (by show A.units + 1 + 0 < cLine; omega))
    | ch d =>
      obtain ⟨l', v', rfl, hl', hv'⟩ := vl_ch Hb
      have g := RcLt.tuples (A := A) (e := fun k => if k = 0 then true else decide (c = d)) (r := fun _ => ltC c d) hl hl' (by omega)
        (fun k h1 _ => two (P := fun k => ∀ (h1 : k < 2) (h2 : k < 2), EqAt A.in1 s (#[Value.bool true, v][k]) (#[Value.bool true, v'][k]) (if k = 0 then true else decide (c = d))) (fun _ _ => SeqAt.EqAt.bool_bool true true) (fun _ _ => eqAt_datum hv hv' (by show A.units + 1 + 1 < cLine; omega)) k h1 h1 h1)
        (fun k h1 _ => two (P := fun k => ∀ (h1 : k < 2) (h2 : k < 2), (if k = 0 then true else decide (c = d)) = false → RcLt A.in1 s (#[Value.bool true, v][k]) (#[Value.bool true, v'][k]) (ltC c d)) (fun _ _ h => nomatch h) (fun _ _ _ => rcLt_C hv hv' (by show A.units + 1 + 1 < cLine; omega)) k h1 h1 h1)
      have e : firstLt (fun k => if k = 0 then true else decide (c = d)) (fun _ => ltC c d) (decide ((2 : Nat) < 2)) (List.range (min 2 2)) = ltV (.ch c) (.ch d) := by
        show (if (true = true) then (if decide (c = d) = true then decide ((2 : Nat) < 2) else ltC c d) else _) = ltC c d
        rw [if_pos rfl]
        by_cases h : c = d
        · rw [if_pos (decide_eq_true h), h, ltC_irr]
          exact decide_eq_false (Nat.lt_irrefl 2)
        · rw [if_neg (by rw [decide_eq_false h]; decide)]
      rw [← e]
      exact g
end
end Mgs

set_option Elab.async false
set_option linter.all false
set_option maxRecDepth 100000
set_option maxHeartbeats 4000000
/-! sorted of meetings in the form in which they are compared -/
namespace Mgs
open PySem PySem.SeqAt PyProof.Rows PySem.W
section
variable {A : Around} {s : Shared} {a b : Value}
def eP (p q : Prt) : Nat → Bool
  | 0 => decide (p.a = q.a)
  | 1 => decide (p.b = q.b)
  | 2 => decide (p.c = q.c)
  | _ => decide (p.d = q.d)
def rP (p q : Prt) : Nat → Bool
  | 0 => decide (p.a < q.a)
  | 1 => decide (p.b < q.b)
  | 2 => decide (p.c < q.c)
  | _ => ltV p.d q.d
theorem first_P (p q : Prt) : firstLt (eP p q) (rP p q) (decide ((4 : Nat) < 4)) (List.range (min 4 4)) = ltP p q := by
  show (if decide (p.a = q.a) = true then (if decide (p.b = q.b) = true then (if decide (p.c = q.c) = true then (if decide (p.d = q.d) = true then decide ((4 : Nat) < 4) else ltV p.d q.d) else decide (p.c < q.c)) else decide (p.b < q.b)) else decide (p.a < q.a)) = _
  unfold ltP
  simp only [decide_eq_true_eq]
  by_cases h : p.d = q.d
  · rw [if_pos h, h, ltV_irr]
    rfl
  · rw [if_neg h]
theorem rcLt_P {p q : Prt} (Ha : Holds s.heap a p) (Hb : Holds s.heap b q) (hu : A.units + 3 < cLine) : RcLt A s a b (ltP p q) := by
  obtain ⟨l, v0, v1, v2, v3, rfl, hl, k0, k1, k2, k3⟩ := t4_of_holds Ha
  obtain ⟨l', u0, u1, u2, u3, rfl, hl', m0, m1, m2, m3⟩ := t4_of_holds Hb
  have g := RcLt.tuples (A := A) (e := eP p q) (r := rP p q) hl hl' (by omega)
    (fun k h1 _ => four (P := fun k => ∀ (h1 : k < 4) (h2 : k < 4), EqAt A.in1 s (#[v0, v1, v2, v3][k]) (#[u0, u1, u2, u3][k]) (eP p q k)) (fun _ _ => eqAt_datum k0 m0 (by show A.units + 1 + 0 < cLine; omega)) (fun _ _ => eqAt_datum k1 m1 (by show A.units + 1 + 0 < cLine; omega))
      (fun _ _ => eqAt_datum k2 m2 (by show A.units + 1 + 0 < cLine; omega)) (fun _ _ => eqAt_datum k3 m3 (by show A.units + 1 + 2 < cLine; omega)) k h1 h1 h1)
    (fun k h1 _ => four (P := fun k => ∀ (h1 : k < 4) (h2 : k < 4), eP p q k = false → RcLt A.in1 s (#[v0, v1, v2, v3][k]) (#[u0, u1, u2, u3][k]) (rP p q k)) (fun _ _ _ => rcLt_I k0 m0 (by show A.units + 1 < cLine; omega)) (fun _ _ _ => rcLt_I k1 m1 (by show A.units + 1 < cLine; omega))
      (fun _ _ _ => rcLt_I k2 m2 (by show A.units + 1 < cLine; omega)) (fun _ _ _ => rcLt_V k3 m3 (by show A.units + 1 + 2 < cLine; omega)) k h1 h1 h1)
  rw [← first_P]
  exact g
def dflP : Prt := ⟨0, 0, 0, .int 0⟩
theorem first_Ps : ∀ xs ys : List Prt, firstLt (fun j => decide (xs.getD j dflP = ys.getD j dflP)) (fun j => ltP (xs.getD j dflP) (ys.getD j dflP)) (decide (xs.length < ys.length)) (List.range (min xs.length ys.length)) = ltPs xs ys
  | [], [] => rfl
  | [], y :: ys => by
    show firstLt _ _ (decide (0 < (y :: ys).length)) (List.range (min 0 (y :: ys).length)) = true
    rw [Nat.zero_min]
    exact decide_eq_true (by simp)
  | x :: xs, [] => by
    show firstLt _ _ (decide ((x :: xs).length < 0)) (List.range (min (x :: xs).length 0)) = false
    rw [Nat.min_zero]
    exact decide_eq_false (by omega)
  | x :: xs, y :: ys => by
    have e : min (x :: xs).length (y :: ys).length = min xs.length ys.length + 1 := by simp only [List.length_cons]; omega
    rw [e, List.range_succ_eq_map, ltPs]
    show (if decide (x = y) = true then firstLt _ _ _ _ else ltP x y) = _
    simp only [decide_eq_true_eq]
    by_cases h : x = y
    · rw [if_pos h, if_pos h, firstLt_map]
      rw [← first_Ps xs ys]
      have e2 : decide ((x :: xs).length < (y :: ys).length) = decide (xs.length < ys.length) := decide_eq_decide.mpr (by simp only [List.length_cons]; omega)
      rw [e2]
      rfl
    · rw [if_neg h, if_neg h]
theorem hold_at {h : Heap} {vs : Array Value} {xs : List Prt} (H : HoldAll h vs.toList xs) {j : Nat} (hj : j < vs.size) : Holds h vs[j] (xs.getD j dflP) := by
  have hl := H.length
  rw [Array.length_toList] at hl
  obtain ⟨x, hx, hh⟩ := H.at (i := j) (v := vs[j]) (by rw [Array.getElem?_toList, Array.getElem?_eq_getElem hj])
  rw [List.getD_eq_getElem?_getD, hx]
  exact hh
theorem rcLt_T {t u : Tup Prt} (Ha : Holds s.heap a t) (Hb : Holds s.heap b u) (hu : A.units + 4 < cLine) : RcLt A s a b (ltPs t.items u.items) := by
  obtain ⟨l, vs, rfl, hl, hv⟩ := tup_of_holds Ha
  obtain ⟨l', us, rfl, hl', hu'⟩ := tup_of_holds Hb
  have n1 := hv.length
  have n2 := hu'.length
  rw [Array.length_toList] at n1 n2
  have g := RcLt.tuples (A := A) (e := fun j => decide (t.items.getD j dflP = u.items.getD j dflP)) (r := fun j => ltP (t.items.getD j dflP) (u.items.getD j dflP)) hl hl' (by omega)
    (fun j h1 h2 => eqAt_datum (hold_at hv h1) (hold_at hu' h2) (by show A.units + 1 + 3 < cLine; omega)) (fun j h1 h2 _ => rcLt_P (hold_at hv h1) (hold_at hu' h2) (by show A.units + 1 + 3 < cLine; omega))
  rw [n1, n2, first_Ps] at g
  exact g
end
section
variable {prog : Program} {w : World} {A : Around} {s : Shared}
theorem ltPs_irr (xs : List Prt) : ltPs xs xs = false := by
  rw [← c_cPs]
  exact lexI_irr _
theorem m_cmp {vs : List Value} {k : Value → Mg} (hp : ∀ v ∈ vs, Holds s.heap v (k v)) (hu : A.units + 8 < cLine) : SrtO.Cmp prog w A s (tuples' false) (fun p => p.1 ∈ vs) (SrtO.lt2 fun v u => ltM (k v) (k u)) := by
  intro p q hm hm'
  show wpAny (model prog w) A (keyLt' (tuples' false) p.1 q.1) (fun r s' => s' = s ∧ r = ltM (k p.1) (k q.1)) (fun _ _ => False) s
  obtain ⟨l, c, t, e1, ⟨o, ho, _, n, hd⟩, hc, ht⟩ := pair_of_holds (hp _ hm)
  obtain ⟨l', c', t', e2, ⟨o', ho', _, n', hd'⟩, hc', ht'⟩ := pair_of_holds (hp _ hm')
  generalize k p.1 = x at hc ht ⊢
  generalize k q.1 = y at hc' ht' ⊢
  rw [e1, e2]
  refine kat_lt ho hd ho' hd' ?_
  show KatLex prog w A false (decide ((2 : Nat) < 2)) _ [(c, c'), (t, t')] 0 s
  refine kat_cons (eqAt_datum hc hc' (by show A.units + 1 < cLine; omega) prog w _ _ ?_)
  refine kat_go (fun h1 => ?_) (fun h1 => ?_)
  · have h1 : x.1 = y.1 := of_decide_eq_true h1
    refine kat_yes (kat_cons (eqAt_datum ht ht' (by show A.units + 4 < cLine; omega) prog w _ _ ?_))
    refine kat_go (fun h2 => ?_) (fun h2 => ?_)
    · have h2 : x.2 = y.2 := of_decide_eq_true h2
      refine kat_yes (kat_nil ⟨rfl, ?_⟩)
      unfold ltM
      rw [if_pos h1, h2, ltPs_irr]
      rfl
    · refine kat_no (kat_one _ _ (rcLt_T ht ht' (by omega) prog w _ _ ?_))
      show s = s ∧ ltPs x.2.items y.2.items = ltM x y
      unfold ltM
      rw [if_pos h1]
      exact ⟨rfl, rfl⟩
  · have h1 : ¬ x.1 = y.1 := of_decide_eq_false h1
    refine kat_no (kat_one _ _ (rcLt_C hc hc' (by omega) prog w _ _ ?_))
    show s = s ∧ ltC x.1 y.1 = ltM x y
    unfold ltM
    rw [if_neg h1]
    exact ⟨rfl, rfl⟩
theorem m_firsts {h : Heap} : ∀ {vs : List Value}, (∀ v ∈ vs, ∃ m : Mg, Holds h v m) → ∃ fs, KatTups h vs fs ∧ fs.length = vs.length ∧ ∀ f ∈ fs, ∃ l o, f = Value.ref l ∧ h.get? l = some o ∧ o.cls = .type "tuple"
  | [], _ => ⟨[], .nil, rfl, fun _ hm => nomatch hm⟩
  | v :: vs, hp => by
    obtain ⟨fs, h1, h2, h3⟩ := m_firsts (vs := vs) fun u hu => hp u (List.mem_cons_of_mem _ hu)
    obtain ⟨m, hm⟩ := hp v List.mem_cons_self
    obtain ⟨l, c, t, rfl, hl, hc, ht⟩ := pair_of_holds hm
    obtain ⟨l2, w1, w2, w3, rfl, ⟨o2, ho2, hc2, _, _⟩, _⟩ := t3_of_holds hc
    obtain ⟨o, ho, hk, n, hd⟩ := hl
    refine ⟨.ref l2 :: fs, KatTups.cons ho hk hd rfl h1, by rw [List.length_cons, List.length_cons, h2], fun f hf => ?_⟩
    rcases List.mem_cons.mp hf with rfl | hf
    · exact ⟨l2, o2, rfl, ho2, hc2⟩
    · exact h3 f hf
end
end Mgs
namespace Mgs
open PySem PySem.Spec PyProof.Rows PySem.W L2 Evl FsK
/-! meetings in that form in the layer's heap -/
def CcAt (H : Hp) (v : V) (c : Chan) : Prop := ∃ a, v = .ref a ∧ H a = some (.tup [.int c.a, .int c.b, .int c.c])
def VlAt (H : Hp) (v : V) : Vl → Prop
  | .int i => ∃ a, v = .ref a ∧ H a = some (.tup [.bl false, .int i])
  | .ch c => ∃ a w, v = .ref a ∧ H a = some (.tup [.bl true, w]) ∧ CcAt H w c
def PmAt (H : Hp) (v : V) (p : Prt) : Prop := ∃ a w, v = .ref a ∧ H a = some (.tup [.int p.a, .int p.b, .int p.c, w]) ∧ VlAt H w p.d
def MgAt (H : Hp) (v : V) (m : Mg) : Prop := ∃ a c t ps, v = .ref a ∧ H a = some (.tup [c, .ref t]) ∧ CcAt H c m.1 ∧ H t = some (.tup ps) ∧ LsA PmAt H ps m.2.items
theorem CcAt.keep {H H' : Hp} (e : ExN H H') {v : V} {c : Chan} (h : CcAt H v c) : CcAt H' v c := by
  obtain ⟨a, h1, h2⟩ := h
  exact ⟨a, h1, e.tup _ _ h2⟩
theorem VlAt.keep {H H' : Hp} (e : ExN H H') {v : V} : ∀ {x : Vl}, VlAt H v x → VlAt H' v x
  | .int i, ⟨a, h1, h2⟩ => ⟨a, h1, e.tup _ _ h2⟩
  | .ch c, ⟨a, w, h1, h2, h3⟩ => ⟨a, w, h1, e.tup _ _ h2, h3.keep e⟩
theorem PmAt.keep {H H' : Hp} (e : ExN H H') {v : V} {p : Prt} (h : PmAt H v p) : PmAt H' v p := by
  obtain ⟨a, w, h1, h2, h3⟩ := h
  exact ⟨a, w, h1, e.tup _ _ h2, h3.keep e⟩
theorem MgAt.keep {H H' : Hp} (e : ExN H H') {v : V} {m : Mg} (h : MgAt H v m) : MgAt H' v m := by
  obtain ⟨a, c, t, ps, h1, h2, h3, h4, h5⟩ := h
  exact ⟨a, c, t, ps, h1, e.tup _ _ h2, h3.keep e, e.tup _ _ h4, h5.imp fun _ _ k => k.keep e⟩
theorem CcAt.uniq {H : Hp} {v : V} {c d : Chan} (h : CcAt H v c) (g : CcAt H v d) : c = d := by
  obtain ⟨a, rfl, h1⟩ := h
  obtain ⟨b, e, g1⟩ := g
  cases e
  rw [h1] at g1
  injection g1 with g1
  injection g1 with g1
  injection g1 with e1 g1
  injection g1 with e2 g1
  injection g1 with e3 g1
  exact T3.same (V.int.inj e1) (V.int.inj e2) (V.int.inj e3)
theorem VlAt.uniq {H : Hp} {v : V} : ∀ {x y : Vl}, VlAt H v x → VlAt H v y → x = y
  | .int i, .int j, ⟨a, h1, h2⟩, ⟨b, g1, g2⟩ => by
    subst h1
    cases g1
    rw [h2] at g2
    injection g2 with g2
    injection g2 with g2
    injection g2 with _ g2
    injection g2 with e _
    rw [V.int.inj e]
  | .int i, .ch d, ⟨a, h1, h2⟩, ⟨b, w, g1, g2, _⟩ => by
    subst h1
    cases g1
    rw [h2] at g2
    injection g2 with g2
    injection g2 with g2
    injection g2 with e _
    cases e
  | .ch c, .int j, ⟨a, w, h1, h2, _⟩, ⟨b, g1, g2⟩ => by
    subst h1
    cases g1
    rw [h2] at g2
    injection g2 with g2
    injection g2 with g2
    injection g2 with e _
    cases e
  | .ch c, .ch d, ⟨a, w, h1, h2, h3⟩, ⟨b, u, g1, g2, g3⟩ => by
    subst h1
    cases g1
    rw [h2] at g2
    injection g2 with g2
    injection g2 with g2
    injection g2 with _ g2
    injection g2 with e _
    subst e
    rw [h3.uniq g3]
theorem PmAt.uniq {H : Hp} {v : V} {p q : Prt} (h : PmAt H v p) (g : PmAt H v q) : p = q := by
  obtain ⟨a, w, rfl, h1, h2⟩ := h
  obtain ⟨b, u, e, g1, g2⟩ := g
  cases e
  rw [h1] at g1
  injection g1 with g1
  injection g1 with g1
  injection g1 with e1 g1
  injection g1 with e2 g1
  injection g1 with e3 g1
  injection g1 with e4 g1
  subst e4
  exact T4.same (V.int.inj e1) (V.int.inj e2) (V.int.inj e3) (h2.uniq g2)
theorem lsa_uniq {α : Type} {R : Hp → V → α → Prop} {H : Hp} (u : ∀ v x y, R H v x → R H v y → x = y) : ∀ {vs : List V} {xs ys : List α}, LsA R H vs xs → LsA R H vs ys → xs = ys
  | [], [], [], _, _ => rfl
  | _ :: _, _ :: _, _ :: _, h, g => by rw [u _ _ _ h.1 g.1, lsa_uniq u h.2 g.2]
  | [], _ :: _, _, h, _ => h.elim
  | [], [], _ :: _, _, g => g.elim
  | _ :: _, [], _, h, _ => h.elim
  | _ :: _, _ :: _, [], _, g => g.elim
theorem MgAt.uniq {H : Hp} {v : V} {m n : Mg} (h : MgAt H v m) (g : MgAt H v n) : m = n := by
  obtain ⟨a, c, t, ps, rfl, h1, h2, h3, h4⟩ := h
  obtain ⟨b, d, u, qs, e, g1, g2, g3, g4⟩ := g
  cases e
  rw [h1] at g1
  injection g1 with g1
  injection g1 with g1
  injection g1 with e1 g1
  injection g1 with e2 g1
  subst e1
  cases e2
  rw [h3] at g3
  injection g3 with g3
  injection g3 with g3
  subst g3
  have e := lsa_uniq (fun _ _ _ x y => PmAt.uniq x y) h4 g4
  have e1 := h2.uniq g2
  obtain ⟨m1, ⟨m2⟩⟩ := m
  obtain ⟨n1, ⟨n2⟩⟩ := n
  cases e
  cases e1
  rfl
section
variable {K : Frag} {H : Hp}
theorem CcAt.dp {v : V} {c : Chan} (h : CcAt H v c) : Dp K H v (Datum.toD c) := by
  obtain ⟨a, rfl, h1⟩ := h
  exact .tup (st_of h1) (.cons (.int _) (.cons (.int _) (.cons (.int _) .nil)))
theorem VlAt.dp {v : V} : ∀ {x : Vl}, VlAt H v x → Dp K H v (Datum.toD x)
  | .int i, ⟨a, h1, h2⟩ => by
    subst h1
    exact .tup (st_of h2) (.cons (.bl _) (.cons (.int _) .nil))
  | .ch c, ⟨a, w, h1, h2, h3⟩ => by
    subst h1
    exact .tup (st_of h2) (.cons (.bl _) (.cons h3.dp .nil))
theorem PmAt.dp {v : V} {p : Prt} (h : PmAt H v p) : Dp K H v (Datum.toD p) := by
  obtain ⟨a, w, rfl, h1, h2⟩ := h
  exact .tup (st_of h1) (.cons (.int _) (.cons (.int _) (.cons (.int _) (.cons h2.dp .nil))))
theorem pms_dp : ∀ {vs : List V} {ps : List Prt}, LsA PmAt H vs ps → DpAll K H vs (ps.map Datum.toD)
  | [], [], _ => .nil
  | _ :: _, _ :: _, h => .cons h.1.dp (pms_dp h.2)
  | [], _ :: _, h => h.elim
  | _ :: _, [], h => h.elim
theorem MgAt.dp {v : V} {m : Mg} (h : MgAt H v m) : Dp K H v (Datum.toD m) := by
  obtain ⟨a, c, t, ps, rfl, h1, h2, h3, h4⟩ := h
  exact .tup (st_of h1) (.cons h2.dp (.cons (.tup (st_of h3) (pms_dp h4)) .nil))
theorem mgs_dp : ∀ {vs : List V} {ms : List Mg}, LsA MgAt H vs ms → DpAll K H vs (ms.map Datum.toD)
  | [], [], _ => .nil
  | _ :: _, _ :: _, h => .cons h.1.dp (mgs_dp h.2)
  | [], _ :: _, h => h.elim
  | _ :: _, [], h => h.elim
end
/-- the meeting at a value -/
noncomputable def mgOf (H : Hp) (v : V) : Mg := open Classical in if h : ∃ m, MgAt H v m then h.choose else (⟨0, 0, 0⟩, ⟨[]⟩)
theorem mgOf_eq {H : Hp} {v : V} {m : Mg} (h : MgAt H v m) : mgOf H v = m := by
  unfold mgOf
  have e : ∃ m, MgAt H v m := ⟨m, h⟩
  rw [dif_pos e]
  exact e.choose_spec.uniq h
theorem mgOf_at {H : Hp} {v : V} {m : Mg} (h : MgAt H v m) : MgAt H v (mgOf H v) := by rw [mgOf_eq h]; exact h
theorem mgs_map {H : Hp} : ∀ {vs : List V} {ms : List Mg}, LsA MgAt H vs ms → vs.map (mgOf H) = ms
  | [], [], _ => rfl
  | v :: vs, m :: ms, h => by rw [List.map_cons, mgOf_eq h.1, mgs_map h.2]
  | [], _ :: _, h => h.elim
  | _ :: _, [], h => h.elim
theorem mgs_of {H : Hp} : ∀ {vs : List V}, (∀ v ∈ vs, ∃ m, MgAt H v m) → LsA MgAt H vs (vs.map (mgOf H))
  | [], _ => trivial
  | v :: vs, h => by
    obtain ⟨m, hm⟩ := h v List.mem_cons_self
    exact ⟨mgOf_at hm, mgs_of fun u hu => h u (List.mem_cons_of_mem _ hu)⟩
theorem mgs_mem {H : Hp} : ∀ {vs : List V} {ms : List Mg}, LsA MgAt H vs ms → ∀ v ∈ vs, ∃ m, MgAt H v m
  | [], [], _, v, hv => nomatch hv
  | u :: vs, m :: ms, h, v, hv => by
    rcases List.mem_cons.mp hv with rfl | hv
    · exact ⟨m, h.1⟩
    · exact mgs_mem h.2 v hv
  | [], _ :: _, h, _, _ => h.elim
  | _ :: _, [], h, _, _ => h.elim
/-- sorted(xs) -/
def rSortM (K : Frag) : List V → Hp → VK → Prop := fun vs H Q => ∃ (a : Addr) (xs : List V) (ms : List Mg), vs = [V.ref a] ∧ SqL K H a xs ∧ LsA MgAt H xs ms ∧
  ∀ ys ns p, SrtO.Srtd ltM ns → ns.Perm ms → LsA MgAt H ys ns → H p = none → Q (.ref p) (upd H p (.lst ys))
theorem cr_sortM {X : Cx} (hu : X.A.units + 64 < cLine) : CallR X (.builtin "sorted") (rSortM X.K) := by
  intro pins s σ H vs us Q I r h
  obtain ⟨a, xs, ms, rfl, hs, hm, q⟩ := h
  obtain ⟨its, rv, hl, hz⟩ := I.list hs
  obtain ⟨u, rfl, ru⟩ := vals1 r
  obtain rfl : u = Value.ref a := ru
  have hmem := mgs_mem hm
  obtain ⟨e1, e2⟩ := refs_back rv fun x hx => by
    obtain ⟨m, a, _, _, _, e, _⟩ := hmem x hx
    exact ⟨a, e⟩
  have hH : ∀ v ∈ its, Holds s.heap v (mgOf H (backV v)) := fun v hv => by
    obtain ⟨t, rfl⟩ := e2 v hv
    have hin : V.ref t ∈ xs := by rw [e1]; exact List.mem_map.mpr ⟨_, hv, rfl⟩
    obtain ⟨m, hm⟩ := hmem _ hin
    exact Dp.reads I _ (.ref t) (.ref t) (mgOf_at hm).dp rfl
  have hzi : its.length ≤ sizeLine := by rw [← rv.length]; exact hz
  refine SrtO.sorted_ord (ltM_swo fun u => mgOf H (backV u)) hl.isList hzi (fun h2 h₁ b _ kk h' keep => ?_) fun out hs hb => ?_
  · have hH' : ∀ v ∈ its, Holds h' v (mgOf H (backV v)) := fun v hv => (hH v hv).keeps fun c o e => keep c o (kk c o e).1 (kk c o e).2
    obtain ⟨fs, f1, f2, f3⟩ := m_firsts (h := h') (vs := its) fun v hv => ⟨_, hH' v hv⟩
    refine ⟨tuples' false, fun Q E hq => ?_, m_cmp (s := { s with heap := h' }) hH' (by show X.A.units + 1 + 1 + 8 < cLine; omega)⟩
    refine kat_kind (T := .type "tuple") f1 (by omega) (fun f hf => ?_) (by rfl) hq
    obtain ⟨l, o, rfl, ho, hc⟩ := f3 f hf
    exact hc ▸ (Looks.ld ho).andThen .now
  · have h3 : ∀ u ∈ out, ∃ a, u = Value.ref a := fun u hu => e2 u (hb.perm.mem_iff.mp hu)
    have hmo : ∀ v ∈ out.map backV, ∃ m, MgAt H v m := fun v hv => by
      obtain ⟨u, hu, rfl⟩ := List.mem_map.mp hv
      exact hmem _ (by rw [e1]; exact List.mem_map.mpr ⟨u, hb.perm.mem_iff.mp hu, rfl⟩)
    have hlen : (out.map backV).length ≤ sizeLine := by
      rw [List.length_map, hb.perm.length_eq]
      exact hzi
    obtain ⟨n, hn⟩ := sortedAll_at s.heap its out.toArray
    refine ⟨.ref (s.heap.objs.size + 1), upd H (s.heap.objs.size + 1) (.lst (out.map backV)), I.laid (t' := s.toks) (fun b o e => sortedAll_old e) (Nat.le_succ _) ⟨hlen, out, n, vals_back h3, hn⟩, rfl, q _ ((out.map backV).map (mgOf H)) _ ?_ ?_ (mgs_of hmo) (I.hok.fresh (Nat.le_succ _))⟩
    · rw [List.map_map]
      exact List.pairwise_map.mpr hs
    · rw [← mgs_map hm, e1, List.map_map, List.map_map]
      exact hb.perm.map _
end Mgs

set_option Elab.async false
set_option linter.all false
set_option maxRecDepth 100000
set_option maxHeartbeats 2000000
/-! a op b, both instances of one class of the program that defines the operator. -/
namespace FsR
open PySem PySem.Spec PyProof.Rows L2 ClX
structure OpM (K : PySem.W.Frag) (C : Addr) (op : Operator) (g : Addr) : Prop where
  fst : PySem.W.selfFirst K C = true
  at_ : PySem.W.findIn K (.ref C) (PySem.dunder op.info.2) = some (some (.ref g))
  fn : PySem.W.isFn K (.ref g) = true
/-- a op b -/
def tOwn (C : Addr) (sp : Sp) (E : L2.St → XK) (ta tb : TE) : TE := fun σ H Q => ta σ H fun x H1 => tb σ H1 fun y H2 => ∃ (a b dx dy : Addr) (fs gs : List (Str × V)), x = .ref a ∧ y = .ref b ∧ H2 a = some (.ins C dx fs) ∧ H2 b = some (.ins C dy gs) ∧ sp [.ref a, .ref b] H2 Q (E σ)
theorem no_notimpl {y : V} (r : RelV y Value.notImplemented) : False := by
  cases y <;> first | (obtain ⟨t, e⟩ := r; cases e; done) | (cases r; done)
theorem pe_own {X : Cx} {CX : CXT} {k : Nat} {C g : Addr} {fd : FuncData} {ps : List Str} {sp : Sp} {E : L2.St → XK} {ea eb : Expr} {op : Operator} {pos : Pos} {ta tb : TE} (ha : PE X ea ta) (hb : PE X eb tb) (M : OpM X.K C op g) (F : FnOk X.prog X.w X.K X.mg X.base CX k g fd ps sp) (hr : Room k X.A) (hd : Binds X.K fd ps [])
    (hx : ∀ σ, PassesAt CX X σ (E σ)) : PE X (.BinOp ea op eb pos) (tOwn C sp E ta tb) := by
  refine ⟨fun pins s σ H Q I h => wpAny_BinOp (binT ha hb I h fun v u s2 x y H2 I2 rx ry q => ?_)⟩
  obtain ⟨a, b, dx, dy, fs, gs, rfl, rfl, h1, h2, q⟩ := q
  obtain rfl : v = Value.ref a := rx
  obtain rfl : u = Value.ref b := ry
  obtain ⟨_, O1, _, _, _, _⟩ := ins_get I2.hok h1
  obtain ⟨_, O2, _, _, _, _⟩ := ins_get I2.hok h2
  obtain ⟨_, i1, _⟩ := O1.look
  obtain ⟨_, i2, _⟩ := O2.look
  obtain ⟨m, fr⟩ := I2.fr
  refine PySem.W.binop_K fr I2.ok.mod.kin i1 i2.type M.fst M.at_ M.fn (wpAny_mono (run_fnS (us := [.ref a, .ref b]) (vs := [.ref a, .ref b]) F hr hd (hx σ) I2 (.cons rfl (.cons rfl .nil)) q) (fun w s' hw => ?_) fun _ _ z => z)
  obtain ⟨y, H', J, r, q'⟩ := hw
  have fin : EP X pins σ Q w s' := ⟨y, H', J, r, q'⟩
  cases w with
  | notImplemented => exact no_notimpl r
  | _ => exact fin
end FsR

set_option Elab.async false
set_option linter.all false
set_option maxRecDepth 100000
set_option maxHeartbeats 2000000
/-! a == b of instances of one own class, both answers; a op i, i an int. -/
namespace FsR
open PySem PySem.Spec PyProof.Rows L2 Evl
structure EqM (K : PySem.W.Frag) (C : Addr) (g : Addr) : Prop where
  at_ : PySem.W.findIn K (.ref C) "__eq__" = some (some (.ref g))
  fn : PySem.W.isFn K (.ref g) = true
/-- a == b -/
def rOwnEq (C : Addr) (sp : Sp) (E : XK) : R2 := fun x y H Q => ∃ (a b dx dy : Addr) (fs gs : List (Str × V)), x = .ref a ∧ y = .ref b ∧ H a = some (.ins C dx fs) ∧ H b = some (.ins C dy gs) ∧ sp [.ref a, .ref b] H Q E
theorem op_ownEq {X : Cx} {CX : CXT} {k : Nat} {C g : Addr} {fd : FuncData} {ps : List Str} {sp : Sp} {E : XK} (M : EqM X.K C g) (F : FnOk X.prog X.w X.K X.mg X.base CX k g fd ps sp) (hr : Room k X.A) (hd : Binds X.K fd ps []) (hx : ∀ σ, PassesAt CX X σ E) : OpR X (compareOp .Eq) (rOwnEq C sp E) := by
  intro pins s σ H x y v u Q I rx ry h
  obtain ⟨a, b, dx, dy, fs, gs, rfl, rfl, h1, h2, q⟩ := h
  obtain rfl : v = Value.ref a := rx
  obtain rfl : u = Value.ref b := ry
  obtain ⟨_, O1, _, _, _, _⟩ := ins_get I.hok h1
  obtain ⟨_, O2, _, _, _, _⟩ := ins_get I.hok h2
  obtain ⟨_, i1, _⟩ := O1.look
  obtain ⟨_, i2, _⟩ := O2.look
  obtain ⟨m, fr⟩ := I.fr
  show wpAny _ _ (richCompare .Eq _ _) _ _ _
  refine PySem.W.cmp_K (op := .Eq) (tb := .ref C) hr.units0 fr I.ok.mod.kin i1 i2.type (by unfold PySem.W.notFirst; rw [beq_self_eq_true, Bool.true_or]) M.at_ M.fn ?_
  refine wpAny_mono (run_fnS (E := fun _ => E) (us := [.ref a, .ref b]) (vs := [.ref a, .ref b]) F hr hd (hx σ) I (.cons rfl (.cons rfl .nil)) q) (fun w s' hw => ?_) fun _ _ z => z
  obtain ⟨y, H', J, r, q'⟩ := hw
  have fin : EP X pins σ Q w s' := ⟨y, H', J, r, q'⟩
  cases w with
  | notImplemented => exact no_notimpl r
  | _ => exact fin
structure OpI (K : PySem.W.Frag) (C : Addr) (op : Operator) (g : Addr) : Prop where
  fst : PySem.W.selfFirst K C = true
  at_ : PySem.W.findIn K (.ref C) (PySem.dunder op.info.2) = some (some (.ref g))
  fn : PySem.W.isFn K (.ref g) = true
  rv : PySem.W.findIn K (.ref C) (dunderR op.info.2) = some none
  h1 : ∃ fo, PySem.W.findIn K (.type "int") (PySem.dunder op.info.2) = some fo
  h2 : ∃ ro, PySem.W.findIn K (.type "int") (dunderR op.info.2) = some ro
  sub : PySem.W.subIn K (.type "int") (.ref C) = some false
/-- a op i -/
def tOwnI (C : Addr) (sp : Sp) (E : L2.St → XK) (ta tb : TE) : TE := fun σ H Q => ta σ H fun x H1 => tb σ H1 fun y H2 => ∃ (a dx : Addr) (fs : List (Str × V)) (i : Int), x = .ref a ∧ y = .int i ∧ H2 a = some (.ins C dx fs) ∧ sp [.ref a, .int i] H2 Q (E σ)
theorem pe_ownI {X : Cx} {CX : CXT} {k : Nat} {C g : Addr} {fd : FuncData} {ps : List Str} {sp : Sp} {E : L2.St → XK} {ea eb : Expr} {op : Operator} {pos : Pos} {ta tb : TE} (ha : PE X ea ta) (hb : PE X eb tb) (M : OpI X.K C op g) (F : FnOk X.prog X.w X.K X.mg X.base CX k g fd ps sp) (hr : Room k X.A) (hd : Binds X.K fd ps [])
    (hx : ∀ σ, PassesAt CX X σ (E σ)) : PE X (.BinOp ea op eb pos) (tOwnI C sp E ta tb) := by
  refine ⟨fun pins s σ H Q I h => wpAny_BinOp (binT ha hb I h fun v u s2 x y H2 I2 rx ry q => ?_)⟩
  obtain ⟨a, dx, fs, i, rfl, rfl, h1, q⟩ := q
  obtain rfl : v = Value.ref a := rx
  obtain ⟨t, rfl⟩ := ry
  obtain ⟨_, O1, _, _, _, _⟩ := ins_get I2.hok h1
  obtain ⟨_, i1, _⟩ := O1.look
  obtain ⟨m, fr⟩ := I2.fr
  obtain ⟨fo, hfo⟩ := M.h1
  obtain ⟨ro, hro⟩ := M.h2
  refine PySem.W.ksp_binT fr I2.ok.mod.kin i1 (T := "int") rfl M.fst M.at_ M.fn M.rv (.inl rfl) hfo hro M.sub (wpAny_mono (run_fnS (us := [.ref a, .int i t]) (vs := [.ref a, .int i]) F hr hd (hx σ) I2 (.cons rfl (.cons ⟨t, rfl⟩ .nil)) q) (fun w s' hw => ?_) fun _ _ z => z)
  obtain ⟨y, H', J, r, q'⟩ := hw
  have fin : EP X pins σ Q w s' := ⟨y, H', J, r, q'⟩
  cases w with
  | notImplemented => exact no_notimpl r
  | _ => exact fin
end FsR

set_option Elab.async false
set_option linter.all false
set_option maxRecDepth 100000
set_option maxHeartbeats 4000000
/-! Own errors as values: asked by isinstance, their fields read. -/
namespace FsV
open PySem PySem.W PySem.Calls PyProof.Rows
section
variable {P : Program} {w : World} {A : Around} {E : Value → Shared → Prop} {s : Shared} {K : Frag} {x D : Addr} {ox : Obj} {od : Option Obj}
theorem obj_class {nm : Str} {v g : Value} (h1 : (clsIn K D).isSome = true) (h2 : findIn K (.ref D) nm = some (some v)) (h3 : specialIn K v "__get__" = some (some g)) (h4 : takesIn K v = some true) : findObj K D od nm = some (.bind g v) := by
  cases od with
  | none => exact findObj_dataN h1 h2 h3 h4
  | some o => exact findObj_data h1 h2 h3 h4
/-- x.__class__, whatever its dict -/
theorem err_class {Q : Option Value → Shared → Prop} (C : L2.ExcC K D) (X : K.In s.heap) (I : InstAt s.heap x ox D od) (q : Q (some (.ref D)) { s with toks := s.toks + 1 }) : wpAny (model P w) A (getAttr? (.ref x) "__class__") Q E s := by
  have hc : (clsIn K D).isSome = true := by
    obtain ⟨c, e, _⟩ := any_some C.hd
    rw [e]
    rfl
  have found := obj_class (od := od) hc C.ha C.hn C.ht
  obtain ⟨h0, gs, dr, tk, os⟩ := s
  have T0 := I.type (M := model P w)
  have G1 := looks_findIn (M := model P w) X C.hg
  have G2 := looks_findIn (M := model P w) X C.hk
  have G3 := looks_find (M := model P w) X I found
  have isE : Looks (model P w) h0 (isInstance (.ref x) (.type "BaseException")) true := T0.andThen (looks_subIn X C.hs)
  have b1 : (false && onTheHeap (Value.builtin "BaseException.__getattribute__")) = false := by decide
  have b2 : (onTheHeap (Value.ref D) && Value.builtin "BaseException.__getattribute__" == Value.builtin "object.__getattribute__") = false := by
    rw [show (Value.builtin "BaseException.__getattribute__" == Value.builtin "object.__getattribute__") = false by decide +kernel, Bool.and_false]
  unfold getAttr? getAttrBy? getAttrBy
  refine wpAny_bind (wpAny_mkText ?_)
  refine wpAny_bind (wpAny_attempt (wpAny_holding ?_))
  refine wpAny_bind (T0.at (wpAny_bind (G1.at ?_)))
  show wpAny (model P w) A (if (onTheHeap (Value.ref D) && Value.builtin "BaseException.__getattribute__" == Value.builtin "object.__getattribute__") = true then _ else _) _ _ _
  rw [b2, if_neg (by decide)]
  unfold getAttrByItsOwn hookBefore
  refine wpAny_bind ?_
  rw [if_pos (by rfl : onTheHeap (Value.ref D) = true)]
  refine G2.at (wpAny_bind (wpAny_attempt (wpAny_holding ?_)))
  unfold callGetattribute
  rw [b1, if_neg (by decide)]
  unfold boundAndCalled
  rw [F.excAttr_ValueError.ga.bind (.ref x)]
  refine wpAny_bind (wpAny_pure ?_)
  show wpAny (model P w) A (call (.builtin "BaseException.__getattribute__") [.ref x, .str "__class__" tk]) _ _ _
  refine wpAny_call (codeAny_call_builtin F.excAttr_ValueError.ga.plain F.entry_bexc_ga ?_)
  refine @check_slot (model P w) _ _ ⟨h0, gs, dr, tk + 1, os⟩ "BaseException.__getattribute__" "BaseException" "__getattribute__" (.ref x) [.str "__class__" tk] [] _ (by decide +kernel) (by decide +kernel) isE (F.args_bexc_ga (.ref x) (.str "__class__" tk)) ?_
  unfold Builtin.«object.__getattribute__»
  refine wpAny_bind (wpAny_of_eq (a := ((Value.ref x : Value), [Value.str "__class__" tk])) (by first | rfl | (simp only [slotArgs]; rfl)) ?_)
  refine wpAny_bind (wpAny_pure (wpAny_bind (T0.at (wpAny_bind (G3.at ?_)))))
  show wpAny _ _ (holding [Value.builtin "object.__class__"] (call (.builtin "getset_descriptor.__get__") [.builtin "object.__class__", .ref x, .ref D]) >>= ret) _ _ _
  refine wpAny_bind (wpAny_holding (wpAny_call (class_get (s := ⟨h0, gs, dr, tk + 1, os⟩) (ox := ox) (od := od) X I C.hm ?_)))
  refine wpAny_pure ?_
  show wpAny _ _ (handedOut (.ref D)) _ _ _
  rw [handedOut_of (by rfl : handedIn (.ref D) = true)]
  first
    | exact wpAny_pure (wpAny_pure q)
    | exact wpAny_pure q
    | exact wpAny_pure (wpAny_bind (wpAny_pure (wpAny_pure q)))
theorem kitx_err (C : L2.ExcC K D) : KitX K (.ref x) (.ref D) (fun h => ∃ ox od, InstAt h x ox D od) where
  ty := fun M h _ ⟨_, _, I⟩ => I.type
  it := fun M h Y _ => by
    obtain ⟨c, e, _⟩ := any_some C.hd
    unfold clsIn at e
    split at e
    · rename_i _ _ _ _ at_
      intro _ _ _ _ kp q
      unfold isType loadHead
      exact wpAny_bind (wpAny_loadPart (kp _ _ (Y _ _ at_)) (wpAny_pure q))
    · cases e
  ne := fun h tp dd its n sl Y htp => (handS_kitx_exc (x := x) (ox := default) C.hg C.hk C.hs C.hd C.ha C.hn C.ht C.hm).ne h tp dd its n sl Y htp
  ca := fun Y ⟨_, _, I⟩ q => err_class C Y I q
end
end FsV
namespace FsV
open PySem PySem.Spec PyProof.Rows L2
/-- at a stands an error of the class at C -/
def IsErr (H : Hp) (a C : Addr) : Prop := H a = some (ExO (.ref C) a) ∨ ∃ d fs, H a = some (exo a C (some d)) ∧ H d = some (exd d fs)
theorem isErr_inst {P : Program} {w : World} {H : Hp} {h : Heap} {a C : Addr} (ok : HOk P w H h) (e : IsErr H a C) : ∃ ox od, PySem.W.InstAt h a ox C od := by
  rcases e with e | ⟨d, fs, e, ed⟩
  · obtain ⟨⟨oe, vs, g, z, dt, _⟩, _⟩ := (ok a _ e : ObjOk P w H h a (ExO (.ref C) a))
    obtain ⟨oc, od, oda, osl⟩ := oe
    obtain ⟨z1, z2⟩ := z
    dsimp only at z1 z2 dt
    subst z1 z2 dt
    exact ⟨_, none, g, rfl, rfl, trivial⟩
  · obtain ⟨t1, g⟩ := exo_at ok e
    obtain ⟨mA, ⟨o, es, ep, ho, hr⟩, _⟩ := exd_at ok ed
    exact ⟨_, some o, g, rfl, rfl, ho⟩
/-- isinstance(e, c), e an error as a value -/
def rIsV (K : PySem.W.Frag) : List V → Hp → VK → Prop := fun xs H Q => ∃ (a C : Addr) (c : V) (cv : Value) (b : Bool), xs = [.ref a, c] ∧ IsErr H a C ∧ ExcC K C ∧ (∀ u, RelV c u → u = cv) ∧ PySem.W.kitOne K (.ref C) cv = some b ∧ Q (.bl b) H
section
variable {X : Cx} {pos : Pos}
theorem call_isV : CallR X (.builtin "isinstance") (rIsV X.K) := by
  intro pins s σ H xs us Q I r h
  obtain ⟨a, C, c, cv, b, rfl, ea, ec, hcv, hk, q⟩ := h
  cases r with
  | cons rx rr =>
    cases rr with
    | cons rt rr =>
      cases rr
      cases rx
      obtain rfl := hcv _ rt
      exact PySem.W.kia_one (kitx_err ec) I.kIn (isErr_inst I.hok ea) hk (fun z => nomatch z) fun tk => ⟨.bl b, H, I.kept (t' := tk) fun _ _ z => z, rfl, q⟩
/-- e.f, e an error as a value -/
def tErrF (K : PySem.W.Frag) (f : Str) (te : TE) : TE := fun σ H Q => te σ H fun x H1 => ∃ (a C d : Addr) (fs : List (Str × V)) (v : V), x = .ref a ∧ H1 a = some (exo a C (some d)) ∧ H1 d = some (exd d fs) ∧ XfC K C ∧ PySem.W.findIn K (.ref C) f = some none ∧ fs.lookup f = some v ∧ Q v H1
theorem pe_errF {e : Expr} {te : TE} {n : Str} (he : PE X e te) (hb : attributeBase e n X.env (eval e X.env) = eval e X.env := by rfl) : PE X (.Attribute e n pos) (tErrF X.K n te) := by
  refine ⟨fun pins s σ H Q I h => ?_⟩
  refine attr_of hb (thn (he.run pins s σ H _ I h) fun u s1 hh => ?_)
  obtain ⟨x, H1, I1, rx, a, C, d, fs, v, rfl, ea, ed, T, hno, l, q⟩ := hh
  obtain rfl : u = Value.ref a := rx
  obtain ⟨t1, g⟩ := exo_at I1.hok ea
  obtain ⟨mA, hns, rel⟩ := exd_at I1.hok ed
  obtain ⟨od, ho, hl⟩ := lookIn_ns hns
  obtain ⟨u, hu, ru⟩ := RelO.some_of (v := v) (o := mA n) (by rw [← l]; exact rel n)
  have J : PySem.W.InstAt s1.heap a _ C (some od) := ⟨g, rfl, rfl, ho⟩
  exact HandSPX.exc_get I1.kIn J T.ga T.gg T.exC (PySem.W.findObj_own T.hdC hno rfl (by rw [hl, hu])) (handed_of ru) ⟨v, H1, I1.tok _, ru, q⟩
/-- X(), an own error without an own __init__ -/
theorem pe_err0 {C : Addr} {bmB : List Value} {B newId initId : String} {x : Str} {p : Pos} (F : ExcBaseFacts B newId initId bmB) (q : PySem.W.excIn X.K C bmB newId = true) (gC : X.mg x = some (.ref C)) (kC : PySem.W.keepIn X.K (.ref C) = true) (hg : Gl X x)
    (hdb : (x == ("__debug__" : Str)) = false := by decide) : PE X (.Call (.Name x p) [] [] pos) (fun σ H Q => ∀ a, H a = none → Q (.ref a) (upd H a (ExO (.ref C) a))) := by
  refine ⟨fun pins s σ H Q I h => ?_⟩
  refine wpAny_Call_Name_kw (ld_glob I hg gC ?_ hdb)
  refine PySem.W.callWith_K0 I.kIn kC ?_
  show wpAny (model X.prog X.w) X.A (call (.ref C) []) _ _ _
  obtain ⟨bm, N, nm, qn, bs, hdct, sn, sub, ab, col, dd, k0, k1, k2, k3, k5, mN, hC, hN, hni, T⟩ := exc_obj I.kIn q
  refine wpAny_call_exc_subT F T hC hN hni (fun h' a made => ?_) (by show 0 ≤ sizeLine; exact Nat.zero_le _)
  have fresh : H a = none := I.hok.gone made.new
  obtain ⟨t, at_, _, _⟩ := made.there
  exact ⟨.ref a, upd H a (ExO (.ref C) a), I.laidN made.keeps made.new fresh (exO_ok at_ ⟨rfl, rfl⟩ rfl rfl rfl (by show 4 < 6; decide)), rfl, h a fresh⟩
end
end FsV

set_option Elab.async false
set_option linter.all false
set_option maxRecDepth 100000
set_option maxHeartbeats 4000000
/-! try: body, several clauses, each with its own name: except x as n: suite. -/
namespace FsT
open PySem PySem.Spec PyProof.Rows L2
abbrev Cls3 := Value × Nat × (Addr → Value → Option Addr → TS)
/-- the ends of a suite whose name goes behind it -/
def offN (i : Nat) (D : Ends) : Ends := { nx := fun τ G => D.nx (τ.set i none) G, rt := D.rt, bk := fun τ G => D.bk (τ.set i none) G, ct := fun τ G => D.ct (τ.set i none) G }
/-- what the clauses wish, in their order -/
def wAll (K : PySem.W.Frag) (W0 : WX) (D : Ends) : List Cls3 → WX
  | [] => W0
  | q :: more => fun cls d τ G => ∃ b, PySem.W.exmOne K cls q.1 = some b ∧ (b = true → ∀ x, G x = none → q.2.2 x cls d (offN q.2.1 D) (τ.set q.2.1 (some (.ref x))) G) ∧ (b = false → wAll K W0 D more cls d τ G)
inductive Clauses (X : Cx) : List ExceptHandler → List Cls3 → Prop
  | none : Clauses X [] []
  | one {y n : Str} {c : Value} {i : Nat} {ts : Addr → Value → Option Addr → TS} {st : Stmt} {sts : List Stmt} {p1 p2 : Pos} {hs : List ExceptHandler} {qs : List Cls3} (at_ : X.N[i]? = some n) (loc : X.env.kindOf n = some .local) (nm : Names X y c)
      (su : ∀ (x : Addr) (o : Obj) (cls : Value) (d : Option Addr) (pn : List (Addr × Obj)), Zc cls d o → (∃ vs, o.data = .fields vs) → PSs (X.suite x ((x, o) :: pn)) (st :: sts) (ts x cls d)) (more : Clauses X hs qs) :
      Clauses X (.ExceptHandler (some (.Name y p1)) (some n) (st :: sts) p2 :: hs) ((c, i, ts) :: qs)
section
variable {X : Cx} {body : List Stmt} {h₀ : ExceptHandler} {hds : List ExceptHandler} {qs : List Cls3} {pos : Pos} {tb : WX → TS} {W0 : WX}
theorem ps_try_all (st : X.stack = X.env :: X.outer) (fr : X.env.frame = some X.env.locals) (nd : X.N.Nodup) (tk : Takes X W0)
    (hb : ∀ (W : WX) (pn : List (Addr × Obj)) (xe : Value → Shared → Prop), Takes (X.tr pn xe) W → PassesOwn (model X.prog X.w) X.A X.env xe → PSs (X.tr pn xe) body (tb W))
    (hh : Clauses X (h₀ :: hds) qs) : PS X (.Try body (h₀ :: hds) [] [] pos) (fun D τ G => tb (wAll X.K W0 D qs) D τ G) := by
  refine ⟨fun pins s τ G D I h => ?_⟩
  have ok := I.ok
  have afr : X.A.frames = some (X.env :: X.outer) := ok.frames.trans (congrArg some st)
  refine wpAny_Try_except (wpAny_mono ((hb (wAll X.K W0 D qs) (X.pn ++ pins) (fun e s₁ => wpAny (model X.prog X.w) X.A (noteFrame e X.env) (fun _ s₂ => wpAny (model X.prog X.w) X.A (setFlight e none) (fun _ s₃ =>
    wpAny (model X.prog X.w) X.A (handleBy e X.env (h₀ :: hds)) (SP X pins D) X.xe s₃) X.xe s₂) X.xe s₁) (fun u s' fly => ?_) PassesOwn.looking).run [] s τ G D (I.toTry _) h) (fun fl s1 z => ?_) (fun _ _ z => z))
  rotate_left
  · cases fl with
    | ret u => exact let ⟨v, τ1, G1, J, r, q⟩ := z; ⟨v, τ1, G1, J.ofTry ok, r, q⟩
    | next => exact let ⟨τ1, G1, J, q⟩ := z; wpAny_execs_nil ⟨τ1, G1, J.ofTry ok, q⟩
    | brk => exact let ⟨τ1, G1, J, q⟩ := z; ⟨τ1, G1, J.ofTry ok, q⟩
    | cont => exact let ⟨τ1, G1, J, q⟩ := z; ⟨τ1, G1, J.ofTry ok, q⟩
  obtain ⟨x, B, sI, pins1, τ1, G1, cls, d, rfl, Jt, nb, up, sky, nx, os, ag, w⟩ := fly
  have J : Inv X pins τ1 G1 sI := Jt.ofTry ok
  show wpAny (model X.prog X.w) X.A (noteFrame (.ref x) X.env) _ _ _
  refine Sky.land Zc.steady afr fr (show Sky B (X.env :: X.outer) x (Zc cls d) X.env.locals s'.heap from st ▸ sky) fun g fg ug => ?_
  obtain ⟨o, vs, ho, hz, hd⟩ := fg.there
  have out : x ∉ frs (X.env :: X.outer) := fun hm => by
    obtain ⟨_, o', eo, bad⟩ := fg.2.2.1.mem hm
    rw [ho] at eo
    cases eo
    exact bad _ hd
  have n1 : x ≠ X.env.locals := fun z => out (List.mem_filterMap.mpr ⟨X.env, List.mem_cons_self, fr.trans (congrArg some z.symm)⟩)
  have n2 : x ∉ X.fs := fun hm => let ⟨e, he, q⟩ := List.mem_filterMap.mp hm; out (List.mem_filterMap.mpr ⟨e, List.mem_cons_of_mem _ he, q⟩)
  have Jg : Inv X pins τ1 G1 { s' with heap := g } := J.landed nb fg.1 (up.trans ug) os ag
  have S := Jg.suite ho hd nx n1 n2
  have kin : X.K.In g := Jg.kIn
  have every : ∀ {hs : List ExceptHandler} {l : List Cls3}, Clauses X hs l → wAll X.K W0 D l cls d τ1 G1 → wpAny (model X.prog X.w) X.A (handleBy (.ref x) X.env hs) (SP X pins D) X.xe { s' with heap := g } := by
    intro hs l cl
    induction cl with
    | none =>
      intro w
      obtain ⟨_, _, _, o1, vs1, T, oT, ts1, e1, _, e2, e3, _⟩ := id fg
      have up1 : wpAny (model X.prog X.w) X.A (setFlight (.ref x) X.env.frame) (fun _ s4 => wpAny (model X.prog X.w) X.A (throw (.ref x) : Sem Flow) (SP X pins D) X.xe s4) X.xe { s' with heap := g } := fr ▸ HandSPX.setFlight_upZ fg fun g2 held ug2 => wpAny_throw (tk _ _
        ⟨x, B, sI, pins, τ1, G1, cls, d, rfl, J, nb, (up.trans ug).trans ug2, .inr (.inr (by rw [st]; exact held)), nx, os, ag, w⟩)
      refine wpAny_handleBy_nil ?_
      unfold PySem.passOn
      refine wpAny_bind (wpAny_field e1 e2 e3 ?_)
      rw [if_neg (by simp : ¬ ((Value.ref T == Value.none) = true))]
      first
        | exact wpAny_bind (wpAny_pure (wpAny_bind up1))
        | exact wpAny_bind up1
    | @one y n c i ts st1 sts1 p1 p2 hs1 qs1 at_ loc nm su more ih =>
      rintro ⟨b, eb, yes, no⟩
      have tyx : PySem.W.Looks (model X.prog X.w) g (typeOf (.ref x)) cls := fun A Q E s k q => wpAny_typeOf_ref (k _ _ ho) (hz.1 ▸ q)
      refine wpAny_handleBy_cons (codeAny_handlers_test ?_) (by intro q; cases q)
      have named : ∀ {Q : Value → Shared → Prop} {E : Value → Shared → Prop}, Q c { s' with heap := g } → wpAny (model X.prog X.w) (X.A.mark (some (.ref x))) (eval (.Name y p1) X.env) Q E { s' with heap := g } := fun {Q E} q => by
        rcases nm with ⟨gl, db, hm | ⟨hm, hv, hnn⟩⟩
        · exact ld_glob (X := X.suite x ((x, o) :: (X.pn ++ pins))) S gl hm q db
        · exact ld_blt (X := X.suite x ((x, o) :: (X.pn ++ pins))) S gl hm hv q hnn db
      refine named ((PySem.W.exm_one (M := model X.prog X.w) kin tyx eb).here ?_)
      cases b with
      | false => exact ih (no rfl)
      | true =>
        refine codeAny_handlers_suite_as (HandSPX.lands_againZ fg fun g2 fg2 ug2 => ?_)
        obtain ⟨o2, vs2, ho2, hz2, hd2⟩ := fg2.there
        have Jg2 : Inv X pins τ1 G1 { s' with heap := g2 } := J.landed nb fg2.1 ((up.trans ug).trans ug2) os ag
        have S2 := Jg2.suite ho2 hd2 nx n1 n2
        refine store_ok (X := X.suite x ((x, o2) :: (X.pn ++ pins))) (v := .ref x) S2 nd at_ (.inl loc) rfl (fun s5 S5 => ?_) (.inr loc)
        refine wpAny_mono ((su x o2 cls d (X.pn ++ pins) hz2 ⟨_, hd2⟩).run [] s5 _ G1 _ S5 (yes rfl x nx)) (fun fl s6 z => ?_) (fun _ _ z => False.elim z)
        have goes : ∀ {τ6 : L2.St} {G6 : Hp} {Q : Shared → Prop}, Inv (X.suite x ((x, o2) :: (X.pn ++ pins))) [] τ6 G6 s6 → (∀ s7, Inv X pins (τ6.set i none) G6 s7 → Q s7) →
            wpAny (model X.prog X.w) X.A (do bindName X.env n .none; unbindBehindTheSuite X.env n p2) (fun _ s7 => Q s7) X.xe s6 := fun {τ6 G6 Q} S6 hq => gone_ok (S6.unsuite ok) nd at_ loc hq
        cases fl with
        | ret u => exact let ⟨v6, τ6, G6, S6, r6, q6⟩ := z; goes S6 fun s7 J7 => ⟨_, _, _, J7, r6, q6⟩
        | next => exact let ⟨τ6, G6, S6, q6⟩ := z; goes S6 fun s7 J7 => ⟨_, _, J7, q6⟩
        | brk => exact let ⟨τ6, G6, S6, q6⟩ := z; goes S6 fun s7 J7 => ⟨_, _, J7, q6⟩
        | cont => exact let ⟨τ6, G6, S6, q6⟩ := z; goes S6 fun s7 J7 => ⟨_, _, J7, q6⟩
  exact every hh w
end
/-- o.m(..), what the method raises told by the slots -/
def tMethS (C : Addr) (m : Str) (sp : Sp) (E : L2.St → XK) (ta : TE) (t : TA) : TE := fun τ G Q => ta τ G fun x G1 => ∃ a dx fs, x = .ref a ∧ G1 a = some (.ins C dx fs) ∧ fs.lookup m = none ∧ t τ G1 fun vs G2 => sp (x :: vs) G2 Q (E τ)
section
variable {X : Cx} {CX : CXT} {k : Nat} {f C : Addr} {fd : FuncData} {ps : List Str} {sp : Sp} {E : L2.St → XK} {m : Str} {pos apos : Pos} {e o : Expr} {es : List Expr} {ta : TE} {t : TA}
theorem pe_methS {pl : Sem Bool} (he : PE X o ta) (c : Cls X.K C) (hm : Meth X.K C m f) (F : FnOk X.prog X.w X.K X.mg X.base CX k f fd ps sp) (hr : Room k X.A) (hb : Binds X.K fd ps []) (hx : ∀ τ, PassesAt CX X τ (E τ)) (ha : PA X (e :: es) t)
    (hst : starEach (e :: es) X.env = (false, eval e X.env) :: starEach es X.env := by rfl) (hpl : (backTo pos (starEach es X.env)).any (·.1) = false := by rfl)
    (ht : eval (.Call (.Attribute o m apos) (e :: es) [] pos) X.env = (do
      let ov ← eval o X.env
      standAt apos.atName
      let (f, first) ← holding [ov] (getMethod ov m pl)
      callWith pos f first (backTo pos (starEach (e :: es) X.env)) (backToKw pos (keywordEach [] X.env))) := by rfl) :
    PE X (.Call (.Attribute o m apos) (e :: es) [] pos) (tMethS C m sp E ta t) := by
  refine ⟨fun pins s τ G Q I h => PySem.W.methodCall_KW (pl := pl) (thn (he.run pins s τ G _ I h) fun u s1 ⟨x, G1, I1, rx, a, dx, fs, ex, ea, l, q⟩ => ?_) ht⟩
  subst ex
  obtain rfl : u = Value.ref a := rx
  exact getmeth_ok I1 ea c hm l (PySem.W.callWith_K (first := [.ref a]) (h₀ := X.base) I.ok.mod.kin hm.kp (thn (ha.run pos pins s1 τ G1 _ I1 q) fun us s2 ⟨vs, G2, I2, r, q2⟩ => ⟨I2.kIn, run_fnS (us := .ref a :: us) (vs := .ref a :: vs) F hr hb (hx τ) I2 (.cons rfl r) q2⟩) hst hpl)
end
end FsT

set_option Elab.async false
set_option linter.all false
set_option maxRecDepth 100000
set_option maxHeartbeats 2000000
/-! list(range(n)). -/
namespace FsR
open PySem PySem.Spec PyProof.Rows L2 Evl
def nums (n : Nat) : List V := (List.range n).map fun (i : Nat) => V.int (i : Int)
def tListR (ta : TA) : TE := fun σ H Q => ta σ H fun vs H1 => ∃ n : Int, vs = [.int n] ∧ 0 ≤ n ∧ n ≤ 100000 ∧ ∀ p, H1 p = none → Q (.ref p) (upd H1 p (.lst (nums n.toNat)))
theorem nums_vals : ∀ {n : Nat} {acc : List Value}, acc.length = n → (∀ (j : Nat) (v : Value), acc[j]? = some v → ∃ t, v = Value.int (j : Int) t) → Vals (nums n) acc := by
  intro n
  induction n with
  | zero =>
    intro acc h _
    cases acc with
    | nil => exact Paired.nil
    | cons a b => cases h
  | succ n ih =>
    intro acc h hv
    obtain ⟨as, a, rfl⟩ : ∃ as a, acc = as ++ [a] := by
      rcases List.eq_nil_or_concat acc with e | ⟨as, a, e⟩
      · rw [e] at h; cases h
      · exact ⟨as, a, by rw [e, List.concat_eq_append]⟩
    have hl : as.length = n := by
      rw [List.length_append] at h
      exact Nat.succ.inj h
    have e1 : nums (n + 1) = nums n ++ [.int (n : Int)] := by
      unfold nums
      rw [List.range_succ, List.map_append]
      rfl
    rw [e1]
    refine Vals.append (ih hl fun j v hj => hv j v ?_) (.cons ?_ Paired.nil)
    · rw [List.getElem?_append_left (List.getElem?_eq_some_iff.mp hj).1]
      exact hj
    · obtain ⟨t, ht⟩ := hv n a (by rw [List.getElem?_append_right (by omega), hl, Nat.sub_self]; rfl)
      exact ⟨t, ht⟩
theorem pe_listR {X : Cx} {e : Expr} {ta : TA} {p1 p2 pos cpos : Pos} (hc : X.calm = true) (he : PA X [e] ta) (hg : Gl X "list") (hm : X.mg "list" = none) (hv : bootBuiltins "list" = some (.type "list")) (hg2 : Gl X "range") (hm2 : X.mg "range" = none)
    (hs : starEach [.Call (.Name "range" p2) [e] [] cpos] X.env = (false, eval (.Call (.Name "range" p2) [e] [] cpos) X.env) :: starEach [] X.env := by rfl) (hs2 : starEach [e] X.env = [(false, eval e X.env)] := by rfl) :
    PE X (.Call (.Name "list" p1) [.Call (.Name "range" p2) [e] [] cpos] [] pos) (tListR ta) := by
  refine ⟨fun pins s σ H Q I h => ?_⟩
  refine wpAny_Call_Name_kw (ld_blt I hg hm hv ?_)
  refine PyProof.Rows.callWith_type1 ?_ hs rfl
  rw [hs]
  show wpAny _ _ (spliced ((false, eval (.Call (.Name "range" p2) [e] [] cpos) X.env) :: backTo pos (starEach [] X.env))) _ _ s
  refine Calls.spliced_cons ?_
  refine Call_ (ld_blt I hg2 hm2 boot_range (PyProof.Rows.callWith_type1 (thn (he.run cpos pins s σ H _ I h) fun us s1 ⟨vs, H1, I1, r1, n, e1, z0, z1, q⟩ => ?_) hs2 rfl))
  subst e1
  cases r1 with
  | cons r rr =>
    cases rr
    obtain ⟨t, rfl⟩ := r
    refine call_range_1 ?_
    have I2 : Inv X pins σ H1 { s1 with heap := s1.heap.push { cls := .type "range", data := .fields #[.int 0 s1.toks, .int n t, .int 1 (s1.toks + 1)] }, toks := s1.toks + 1 + 1 } := I1.kept fun b o e => Heap.get?_push_of_some _ e
    refine Calls.spliced_nil ?_
    obtain ⟨m, rfl⟩ : ∃ m : Nat, n = (m : Int) := ⟨n.toNat, by omega⟩
    refine call_list_range (n := m) (I2.ok.hd hc) (IsRange.new ..) (small_one (by decide) (by decide) (by omega) (by omega)) (by rw [rangeSize_one]; split <;> omega) (by omega) (fun h' tk acc c' kp e ⟨hz, hi⟩ => ?_)
    have hv : Vals (nums m) acc.toList := nums_vals (by rw [Array.length_toList]; exact hz) fun j v hj => by
      rw [Array.getElem?_toList] at hj
      obtain ⟨t, ht⟩ := hi j v hj
      exact ⟨t, by rw [ht]; simp⟩
    have hzl : (nums m).length ≤ sizeLine := by
      unfold nums
      rw [List.length_map, List.length_range]
      exact sz_of (by omega)
    refine ⟨.ref _, _, I2.laid (t' := tk) kp (Nat.le_refl _) (show ObjOk X.prog X.w _ h' _ (.lst (nums m)) from ⟨hzl, acc.toList, c', hv, by rw [Array.toArray_toList]; exact e⟩), rfl, q _ (I2.hok.fresh (Nat.le_refl _))⟩
theorem el_listR {σ : L2.St} {H : Hp} {ta : TA} {n : Nat} (h : EvA ta σ H [.int (n : Int)]) (hn : n ≤ 100000) : EvL (tListR ta) σ H (nums n) := fun H1 e Q q => h H1 e _ fun H2 e2 => ⟨(n : Int), rfl, by omega, by omega, fun p hp => q p _ (fresh_back e2 hp) (e2.trans (Ex.new hp)) upd_same⟩
/-- xs + ys, both lists -/
theorem el_cat {σ : L2.St} {H : Hp} {ta tb : TE} {xs ys : List V} (ha : EvL ta σ H xs) (hb : EvL tb σ H ys) (hz : xs.length + ys.length ≤ 100000) : EvL (tOp rCat ta tb) σ H (xs ++ ys) := fun H1 e Q q =>
  ha H1 e _ fun p H2 hp e2 h2 => hb H2 (e.trans e2) _ fun r H3 hr e3 h3 => ⟨p, r, xs, ys, rfl, rfl, e3 _ _ h2, h3, sz_of (by omega), fun u hu => q u _ (fresh_back (e2.trans e3) hu) ((e2.trans e3).trans (Ex.new hu)) upd_same⟩
end FsR

set_option Elab.async false
set_option linter.all false
set_option maxRecDepth 100000
set_option maxHeartbeats 2000000
namespace Fs
open PySem L2 Evl FsE FsC
def topS (i : Nat) : Stmt := PySem.Challenge.pw_fullseats_k35_exchanged_neighbours.main.body.getD i (.Pass ⟨0, 0, 0, 0⟩)
structure LawT (K : PySem.W.Frag) (mg : Str → Option Value) : Prop where
  len : mg "len" = none
  int : mg "int" = none
  abs : mg "abs" = none
  range : mg "range" = none
section
variable {P : Program} {w : World} {K : PySem.W.Frag} {mg : Str → Option Value} {base : Heap}
theorem rc_int {K : PySem.W.Frag} {i : Int} {H : Hp} : RC (fun xs H Q => (∃ i, xs = [V.int i] ∧ Q (.int i) H) ∨ ∃ k, xs = [V.bl k] ∧ Q (.int (if k then 1 else 0)) H) [.int i] H (.int i) := fun H1 _ Q q => .inl ⟨i, rfl, q H1 (Ex.refl H1)⟩
/-- _law_cell_at(script, k): some int -/
def spCellAt (K : PySem.W.Frag) : Sp := fun vs H Q _ => ∃ (a : Addr) (ns : List Int) (k : Nat), vs = [.ref a, .int (k : Int)] ∧ SqL K H a (ns.map V.int) ∧ ∀ i : Int, RetV (.int i) H Q
theorem scCellAt : FnScope ["_law_script", "_law_k"] ["_law_script", "_law_k"] (defScope (topS 16)) := ⟨rfl, rfl, rfl, by decide +kernel, rfl, by decide +kernel, by decide +kernel⟩
theorem ok_cell_at {f : Addr} {fd : FuncData} (F : Fun K "_law_cell_at" "_law_cell_at" (topS 16) f fd) (T : LawT K mg) : FnOk P w K mg base CX0 1 f fd ["_law_script", "_law_k"] (spCellAt K) := by
  refine F.ok scCellAt (fun vs H Q E h => ?_) (fun cdv A outer s H vs Q E hr h => ?_)
  · obtain ⟨a, ns, k, rfl, _⟩ := h
    rfl
  · obtain ⟨a, ns, k, rfl, hS, q⟩ := h
    refine ⟨_, pss_cons (ps_if (pt_cmpR op_lt (pv 1) (pe_callB call_len_seq (by rfl) T.len PySem.boot_len (pa_cons (pv 0) pa_nil)) (nomark _)) (pss_one (ps_ret (pe_ix ix_list (pv 0) (pv 1) (fun _ _ => rfl)))) pss_nil) (pss_one (ps_ret pe_int)), ?_⟩
    refine q_when (b := decide ((k : Int) < ((ns.map V.int).length : Nat))) (et_test (ev_op (ev_var rfl) (ev_cb (ea_cons (ev_var rfl) ea_nil) (fun H2 e2 Q' q' => ⟨a, _, rfl, .inl (ex_l e2 hS), q' H2 (Ex.refl H2)⟩)) rv_I0)) (fun hb H1 e1 => ?_) (fun hb H1 e1 => ?_)
    · have hk : k < ns.length := by
        have : (k : Int) < ((ns.map V.int).length : Nat) := by simpa using hb
        rw [List.length_map] at this
        omega
      refine s_ret (v := .int ns[k]) (ev_op (ev_var rfl) (ev_var rfl) (rv_ixL (ex_l e1 hS) (atI_nat (by rw [List.getElem?_map, List.getElem?_eq_getElem hk]; rfl)))) (fun H2 e2 => q _ H2 (e1.trans e2))
    · exact s_ret ev_c (fun H2 e2 => q _ H2 (e1.trans e2))
/-- _law_mixed(cell, k): some int -/
def spMixed : Sp := fun vs H Q _ => ∃ (c : Int) (k : Nat), vs = [.int c, .int (k : Int)] ∧ k ≤ 1000 ∧ ∀ i : Int, RetV (.int i) H Q
theorem scMixed : FnScope ["_law_cell", "_law_k", "_law_spread"] ["_law_cell", "_law_k"] (defScope (topS 17)) := ⟨rfl, rfl, rfl, by decide +kernel, rfl, by decide +kernel, by decide +kernel⟩
theorem ok_mixed {f : Addr} {fd : FuncData} (F : Fun K "_law_mixed" "_law_mixed" (topS 17) f fd) (T : LawT K mg) : FnOk P w K mg base CX0 1 f fd ["_law_cell", "_law_k"] spMixed := by
  refine F.ok scMixed (fun vs H Q E h => ?_) (fun cdv A outer s H vs Q E hr h => ?_)
  · obtain ⟨c, k, rfl, _⟩ := h
    rfl
  · obtain ⟨c, k, rfl, hk, q⟩ := h
    refine ⟨_, pss_cons (ps_set (i := 2) scMixed.nd rfl (Or.inl rfl) (pe_op op_mod (pe_callTy call_int1 (by rfl) T.int (by decide +kernel) (pa_cons (pe_op op_pow (pe_op op_add (pe_op op_add (pe_op op_mod (pe_callTy call_int1 (by rfl) T.int (by decide +kernel) (pa_cons (pv 0) pa_nil)) pe_int) (pe_op op_mul pe_int (pv 1))) pe_int) pe_int) pa_nil)) pe_int))
      (pss_one (ps_ret (pe_op op_mod (pe_callTy call_int1 (by rfl) T.int (by decide +kernel) (pa_cons (pe_op op_mul (pe_op op_add (pv 2) (pv 1)) pe_int) pa_nil)) pe_int))), ?_⟩
    have h1 := Int.emod_nonneg c (b := 2147483647) (by decide)
    have h2 := Int.emod_lt_of_pos c (b := 2147483647) (by decide)
    refine ⟨.int c, rfl, .inl ⟨c, rfl, c, 2147483647, rfl, rfl, (by decide : (0 : Int) < 2147483647), ?_⟩⟩
    refine ⟨.int (k : Int), rfl, 7919, (k : Int), rfl, rfl, .inl ⟨by decide, by decide⟩, ?_⟩
    refine ⟨c % 2147483647, 7919 * (k : Int), rfl, rfl, c % 2147483647 + 7919 * (k : Int), 104729, rfl, rfl, ?_⟩
    refine ⟨c % 2147483647 + 7919 * (k : Int) + 104729, 5, rfl, rfl, ⟨by decide, by decide, by omega⟩, ?_⟩
    refine .inl ⟨_, rfl, _, 2147483647, rfl, rfl, (by decide : (0 : Int) < 2147483647), ?_⟩
    refine ⟨_, rfl, .int (k : Int), rfl, _, (k : Int), rfl, rfl, _, 40692, rfl, rfl, .inr ⟨by decide, by decide⟩, ?_⟩
    refine .inl ⟨_, rfl, _, 2147483629, rfl, rfl, (by decide : (0 : Int) < 2147483629), ?_⟩
    exact q _ H (Ex.refl H)
/-- _law_row(cell, many): so many ints from 0 to 999 -/
def RowOk (row : List Int) : Prop := ∀ v ∈ row, 0 ≤ v ∧ v < 1000
def spRow : Sp := fun vs H Q _ => ∃ (c : Int) (n : Nat), vs = [.int c, .int (n : Int)] ∧ n ≤ 500 ∧ ∀ row : List Int, row.length = n → RowOk row → RetL (row.map V.int) H Q
theorem scRow : FnScope ["_law_cell", "_law_many", "_law_row_here", "_law_rest", "_law_k"] ["_law_cell", "_law_many"] (defScope (topS 18)) := ⟨rfl, rfl, rfl, by decide +kernel, rfl, by decide +kernel, by decide +kernel⟩
theorem rowOk_add {row : List Int} {v : Int} (h : RowOk row) (h0 : 0 ≤ v) (h1 : v < 1000) : RowOk (row ++ [v]) := fun x hx => by
  rcases List.mem_append.mp hx with hx | hx
  · exact h x hx
  · rw [List.mem_singleton.mp hx]
    exact ⟨h0, h1⟩
theorem ok_row {f : Addr} {fd : FuncData} (F : Fun K "_law_row" "_law_row" (topS 18) f fd) (T : LawT K mg) (GM : CalX P w K mg base CX0 1 "_law_mixed" spMixed) : FnOk P w K mg base CX0 2 f fd ["_law_cell", "_law_many"] spRow := by
  refine F.ok scRow (fun vs H Q E h => ?_) (fun cdv A outer s H vs Q E hr h => ?_)
  · obtain ⟨c, n, rfl, _⟩ := h
    rfl
  · obtain ⟨c, n, rfl, hn, q⟩ := h
    refine ⟨_, pss_cons (ps_set (i := 2) scRow.nd rfl (Or.inl rfl) (pe_lst pa_nil))
      (pss_cons (ps_set (i := 3) scRow.nd rfl (Or.inl rfl) pe_int)
      (pss_cut (ps_if (pt_cmpR op_ge (pe_callB call_abs (by rfl) T.abs (by decide +kernel) (pa_cons (pv 0) pa_nil)) (pe_op op_pow pe_int pe_int) (nomark _)) (pss_one (ps_set (i := 3) scRow.nd rfl (Or.inl rfl) (pe_callB call_abs (by rfl) T.abs (by decide +kernel) (pa_cons (pv 0) pa_nil)))) pss_nil)
      (pss_cons (ps_for PassesOwn.never rfl (pi_range1 rfl T.range (pa_cons (pv 1) pa_nil)) (pg_name (i := 4) scRow.nd rfl (Or.inl rfl))
        (pss_one (ps_if (pt_cmpR op_gt (pv 3) pe_int (nomark _))
          (pss_cons (ps_expr (pe_bm PySem.F.plainAttrs_list PySem.F.slot_list_append PySem.F.type_list_append mt_append (pv 2) (pa_cons (pe_op op_mod (pe_callTy call_int1 (by rfl) T.int (by decide +kernel) (pa_cons (pv 3) pa_nil)) pe_int) pa_nil)))
            (pss_one (ps_set (i := 3) scRow.nd rfl (Or.inl rfl) (pe_op op_fdiv (pv 3) pe_int))))
          (pss_one (ps_expr (pe_bm PySem.F.plainAttrs_list PySem.F.slot_list_append PySem.F.type_list_append mt_append (pv 2) (pa_cons (pe_op op_mod (pe_callTy call_int1 (by rfl) T.int (by decide +kernel) (pa_cons (pe_cx (E := fun _ => E0) GM hr (by decide) (by rfl) at0 (pa_cons (pv 0) (pa_cons (pv 4) pa_nil))) pa_nil)) pe_int) pa_nil)))))))
      (pss_one (ps_ret (pv 2)))))), ?_⟩
    refine q_asgL (xs := []) (el_lst ea_nil (by decide)) (fun l H1 hl e1 h1 => ?_)
    refine q_asg (v := .int 0) ev_c (fun H2 e2 => ?_)
    refine q_cut (M := fun σ' H' => ∃ r : Int, σ' = [some (.int c), some (.int (n : Int)), some (.ref l), some (.int r), none] ∧ Ex H H' ∧ H' l = some (.lst [])) ?_ (fun σ3 H3 ⟨r, hσ3, e3, h3⟩ => ?_)
    · refine s_when (b := decide ((10 : Int) ^ (18 : Int).toNat ≤ if c < 0 then -c else c)) (et_test (ev_op (ev_cb (ea_cons (ev_var rfl) ea_nil) (fun H4 _ Q' q' => ⟨c, rfl, q' H4 (Ex.refl H4)⟩)) (ev_op ev_c ev_c (rv_I ⟨by decide, by decide, by decide⟩)) rv_I0)) (fun hb H3 e3 => ?_) (fun hb H3 e3 => ?_)
      · exact s_asg (ev_cb (ea_cons (ev_var rfl) ea_nil) (fun H4 _ Q' q' => ⟨c, rfl, q' H4 (Ex.refl H4)⟩)) (fun H4 e4 => ⟨_, rfl, ((e1.trans e2).trans e3).trans e4, (e2.trans (e3.trans e4)) _ _ h1⟩)
      · exact ⟨0, rfl, (e1.trans e2).trans e3, (e2.trans e3) _ _ h1⟩
    · subst hσ3
      refine q_forR1 (n := (n : Int)) (ea_cons (ev_var rfl) ea_nil) (by omega) (fun i σ' H' => ∃ (row : List Int) (rest : Int) (v4 : Option V), σ' = [some (.int c), some (.int (n : Int)), some (.ref l), some (.int rest), v4] ∧ H' l = some (.lst (row.map V.int)) ∧ row.length = i ∧ RowOk row ∧ Ex H H')
        (fun H4 e4 => ⟨[], r, none, rfl, e4 _ _ h3, rfl, (fun v hv => nomatch hv), e3.trans e4⟩) (fun i σ' H' hi ⟨row, rest, v4, hσ, hl', hlen, hrow, he⟩ => ?_) (fun σ' H' ⟨row, rest, v4, hσ, hl', hlen, hrow, he⟩ => ?_)
      · subst hσ
        have hsz : (row.map V.int).length < 100000 := by rw [List.length_map]; omega
        have app : ∀ v : Int, row.map V.int ++ [V.int v] = (row ++ [v]).map V.int := fun v => by rw [List.map_append]; rfl
        refine s_if (b := decide (0 < rest)) (et_test (ev_op (ev_var rfl) ev_c rv_I0)) (fun hb H4 e4 => ?_) (fun hb H4 e4 => ?_)
        · refine q_app (xs := row.map V.int) (v := .int (rest % 1000)) (e4 _ _ hl') (ev_var rfl) (ev_op (x := .int rest) (ev_cb (ea_cons (ev_var rfl) ea_nil) (rc_int (K := K))) ev_c (rv_I (by decide))) hsz (fun H5 e5 => ?_)
          refine s_asg (ev_op (x := .int rest) (ev_var rfl) ev_c (rv_I ⟨by decide, by decide⟩)) (fun H6 e6 => ?_)
          refine ⟨row ++ [rest % 1000], _, _, rfl, e6 _ _ (by rw [← app]; exact upd_same), (by rw [List.length_append, hlen]; rfl), rowOk_add hrow (Int.emod_nonneg _ (by decide)) (Int.emod_lt_of_pos _ (by decide)), (Ex.mut ((he.trans e4).trans e5) hl).trans e6⟩
        · refine ⟨_, rfl, .inl ⟨rfl, _, sq_of (e4 _ _ hl')⟩, _, rfl, _, rfl, c, i, rfl, by omega, fun m H5 e5 => .inl ⟨m, rfl, m, 1000, rfl, rfl, (by decide : (0 : Int) < 1000), l, row.map V.int, .int (m % 1000), rfl, rfl, (e4.trans e5) _ _ hl', sz_lt hsz, ?_⟩⟩
          refine ⟨row ++ [m % 1000], _, _, rfl, (by rw [← app]; exact upd_same), (by rw [List.length_append, hlen]; rfl), rowOk_add hrow (Int.emod_nonneg _ (by decide)) (Int.emod_lt_of_pos _ (by decide)), Ex.mut ((he.trans e4).trans e5) hl⟩
      · subst hσ
        have hn' : row.length = n := by simpa using hlen
        refine s_ret (ev_var rfl) (fun H4 e4 => q row hn' hrow l H4 hl (he.trans e4) (e4 _ _ hl'))
end
end Fs

set_option Elab.async false
set_option linter.all false
set_option maxRecDepth 100000
set_option maxHeartbeats 4000000
namespace Fs
open PySem L2 Evl FsE FsC FsR FsK
/-! meetings in the heap: the machines of their parts -/
def PtAt (H : Hp) (v : V) (m : Int) : Prop := ∃ (q : Addr) (x y z : V), v = .ref q ∧ H q = some (.tup [.int m, x, y, z])
def MtAt (H : Hp) (v : V) (ms : List Int) : Prop := ∃ (a p : Addr) (c : V) (ps : List V), v = .ref a ∧ H a = some (.tup [c, .ref p]) ∧ H p = some (.tup ps) ∧ LsA PtAt H ps ms
theorem PtAt.keep {H H' : Hp} (e : ExN H H') {v : V} {m : Int} (h : PtAt H v m) : PtAt H' v m := by
  obtain ⟨q, x, y, z, h1, h2⟩ := h
  exact ⟨q, x, y, z, h1, e.tup _ _ h2⟩
theorem MtAt.keep {H H' : Hp} (e : ExN H H') {v : V} {ms : List Int} (h : MtAt H v ms) : MtAt H' v ms := by
  obtain ⟨a, p, c, ps, h1, h2, h3, h4⟩ := h
  exact ⟨a, p, c, ps, h1, e.tup _ _ h2, e.tup _ _ h3, h4.imp fun _ _ k => k.keep e⟩
theorem MtAt.ex {H H' : Hp} (e : Ex H H') {v : V} {ms : List Int} (h : MtAt H v ms) : MtAt H' v ms := h.keep (ExN.of e)
abbrev RwAt (H : Hp) (vs : List V) (mss : List (List Int)) : Prop := LsA MtAt H vs mss
theorem RwAt.keep {H H' : Hp} (e : ExN H H') {vs : List V} {mss : List (List Int)} (h : RwAt H vs mss) : RwAt H' vs mss := LsA.imp (fun _ _ k => MtAt.keep e k) h
theorem RwAt.ex {H H' : Hp} (e : Ex H H') {vs : List V} {mss : List (List Int)} (h : RwAt H vs mss) : RwAt H' vs mss := RwAt.keep (ExN.of e) h
def MsOk (mss : List (List Int)) : Prop := mss.length ≤ 10 ∧ ∀ ms ∈ mss, ms.length ≤ 20
section
variable {σ : L2.St} {H : Hp} {te : TE} {K : PySem.W.Frag}
/-- [e for a, b, c, d in (a tuple)] -/
theorem el_lcT4 {a : Addr} {xs ys : List V} {tl : TE} {i1 i2 i3 i4 : Nat} {vs : List Nat} (h : Ev tl σ H (.ref a)) (hx : SqT K H a xs) (hz : xs.length ≤ 40000) (hw : ∀ x1 x2 x3 x4, wipe (((((wipe σ vs).set i1 (some x1)).set i2 (some x2)).set i3 (some x3)).set i4 (some x4)) vs = wipe σ vs) (hl : ys.length = xs.length)
    (he : ∀ (i : Nat) (x y : V) H1, Ex H H1 → xs[i]? = some x → ys[i]? = some y → ∃ (q : Addr) (x1 x2 x3 x4 : V), x = .ref q ∧ H1 q = some (.tup [x1, x2, x3, x4]) ∧ Ev te (((((wipe σ vs).set i1 (some x1)).set i2 (some x2)).set i3 (some x3)).set i4 (some x4)) H1 y) :
    EvL (tLc (iTup K tl) (gTup K 4 (gCons (gName i1) (gCons (gName i2) (gCons (gName i3) (gCons (gName i4) gNil))))) tYes te vs) σ H ys := fun H0 e Q q => h H0 e _ fun H1 e1 => ⟨a, rfl, ⟨xs, ex_t (e.trans e1) hx⟩, fun Dl hD =>
  lc_tup (xs := xs) (Cw H1 (fun _ => true) (fun i => ys.getD i .non) Dl) ⟨hD, Ex.new hD, upd_same⟩ (fun i H' _ p => ex_t ((e.trans e1).trans p.2.1) hx) (fun i x H' hi p => by
    have hi1 := (List.getElem?_eq_some_iff.mp hi).1
    have hy : ys[i]? = some (ys.getD i .non) := by rw [List.getD_eq_getElem?_getD, List.getElem?_eq_getElem (by omega)]; rfl
    obtain ⟨r, x1, x2, x3, x4, rfl, hr, ht⟩ := he i x _ H1 (e.trans e1) hi hy
    exact ⟨r, _, rfl, st_of (p.2.1 _ _ hr), rfl, _, _, rfl, _, _, rfl, _, _, rfl, _, _, rfl, rfl, hw x1 x2 x3 x4, cw_turn (f := fun _ => true) (v := fun i => ys.getD i .non) p (by omega) et_nil (fun _ => ht)⟩)
    (fun H' p => by
      have e3 : given xs.length (fun _ => true) (fun i => ys.getD i .non) = ys := by rw [given_all, range_ys hl]
      have h3 : H' Dl = some (.lst (given xs.length (fun _ => true) (fun i => ys.getD i .non))) := p.2.2
      rw [e3] at h3
      exact q Dl H' (fresh_back e1 p.1) (e1.trans p.2.1) h3)⟩
theorem q_unpT2 {ta : TE} {a : Addr} {x1 x2 : V} {i1 i2 : Nat} {tz : TS} {D : Ends} (h : Ev ta σ H (.ref a)) (hx : H a = some (.tup [x1, x2])) (σ' : L2.St)
    (hσ : (σ.set i1 (some x1)).set i2 (some x2) = σ') (k : ∀ H1, Ex H H1 → tz D σ' H1) : tSeq (tAsg ta (gTup K 2 (gCons (gName i1) (gCons (gName i2) gNil)))) tz D σ H := by
  subst hσ
  exact h H (Ex.refl H) _ fun H1 e1 => ⟨a, _, rfl, st_of (e1 _ _ hx), rfl, _, _, rfl, _, _, rfl, rfl, k H1 e1⟩
end
section
variable {P : Program} {w : World} {K : PySem.W.Frag} {mg : Str → Option Value} {base : Heap}
/-- machines_in(meeting) -/
def spMach : Sp := fun vs H Q _ => ∃ (v : V) (ms : List Int), vs = [v] ∧ MtAt H v ms ∧ ms.length ≤ 20 ∧ RetL (ms.map V.int) H Q
abbrev nsMach : List Str := ["meeting", "channel", "parts", "machine", "turn", "place", "value"]
theorem scMach : FnScope nsMach ["meeting"] (defScope (topS 9)) := ⟨rfl, rfl, rfl, by decide +kernel, rfl, by decide +kernel, by decide +kernel⟩
theorem LsA.pt {H : Hp} : ∀ {vs : List V} {ms : List Int} {i : Nat} {v y : V}, LsA PtAt H vs ms → vs[i]? = some v → (ms.map V.int)[i]? = some y → ∃ (q : Addr) (m : Int) (x z u : V), v = .ref q ∧ y = .int m ∧ H q = some (.tup [.int m, x, z, u])
  | v :: vs, m :: ms, 0, w, y, h, e, e2 => by
    cases e
    cases e2
    obtain ⟨q, x, z, u, h1, h2⟩ := h.1
    exact ⟨q, m, x, z, u, h1, rfl, h2⟩
  | _ :: _, _ :: _, i + 1, _, _, h, e, e2 => LsA.pt (i := i) h.2 e e2
  | [], _, _, _, _, _, e, _ => by simp at e
  | _ :: _, [], _, _, _, h, _, _ => h.elim
theorem ok_mach {f : Addr} {fd : FuncData} (F : Fun K "machines_in" "machines_in" (topS 9) f fd) : FnOk P w K mg base CX0 1 f fd ["meeting"] spMach := by
  refine F.ok scMach (fun vs H Q E h => ?_) (fun cdv A outer s H vs Q E hr h => ?_)
  · obtain ⟨v, ms, rfl, _⟩ := h
    rfl
  · obtain ⟨v, ms, rfl, hm, hz, q⟩ := h
    obtain ⟨a, p, c, ps, rfl, h1, h2, h3⟩ := hm
    refine ⟨_, pss_cons (ps_asg (pv 0) (pg_tup rfl (pgs_cons (pg_name (i := 1) scMach.nd rfl (.inl rfl)) (pgs_cons (pg_name (i := 2) scMach.nd rfl (.inl rfl)) pgs_nil))))
      (pss_one (ps_ret (pe_lc (own := [("machine", 3), ("turn", 4), ("place", 5), ("value", 6)]) (g := gTup K 4 (gCons (gName 3) (gCons (gName 4) (gCons (gName 5) (gCons (gName 6) gNil))))) (tt := tYes) (te := tVar 3) rfl scMach.nd (pi_tup (pv 2)) (blkOk_by (own := [("machine", 3), ("turn", 4), ("place", 5), ("value", 6)]) (N := nsMach) (sc := defScope (topS 9)) (by decide +kernel))
        (fun _ _ _ _ _ => pg_tup rfl (pgs_cons (pg_name (i := 3) scMach.nd rfl (.inl rfl)) (pgs_cons (pg_name (i := 4) scMach.nd rfl (.inl rfl)) (pgs_cons (pg_name (i := 5) scMach.nd rfl (.inl rfl)) (pgs_cons (pg_name (i := 6) scMach.nd rfl (.inl rfl)) pgs_nil))))) (fun _ _ _ _ _ => pts_nil)
        (fun _ _ _ _ _ => pv 3)))), ?_⟩
    refine q_unpT2 (ev_var rfl) h1 [some (.ref a), some c, some (.ref p), none, none, none, none] rfl (fun H1 e1 => ?_)
    refine s_retL (el_lcT4 (xs := ps) (ys := ms.map V.int) (ev_var rfl) (st_of (e1 _ _ h2)) (by have := h3.length; omega) (fun _ _ _ _ => rfl) (by rw [List.length_map]; exact h3.length.symm) (fun i x y H2 e2 hx hy => ?_)) (fun r H2 hr2 e2 h2' => q r H2 (fresh_back e1 hr2) (e1.trans e2) h2')
    obtain ⟨b, m, x1, x2, x3, rfl, rfl, hb⟩ := LsA.pt h3 hx hy
    exact ⟨b, .int m, x1, x2, x3, rfl, (e1.trans e2) _ _ hb, ev_var rfl⟩
/-- is_int, is_index over ints -/
structure RunT (K : PySem.W.Frag) (mg : Str → Option Value) : Prop where
  isinst : mg "isinstance" = none
  int : mg "int" = none
  bool : mg "bool" = none
  len : mg "len" = none
  any : mg "any" = none
  tuple : mg "tuple" = none
def spIsInt : Sp := fun vs H Q _ => ∃ i : Int, vs = [.int i] ∧ RetV (.bl true) H Q
theorem scIsInt : FnScope ["value"] ["value"] (defScope (topS 2)) := ⟨rfl, rfl, rfl, by decide +kernel, rfl, by decide +kernel, by decide +kernel⟩
theorem ok_isint {f : Addr} {fd : FuncData} (F : Fun K "is_int" "is_int" (topS 2) f fd) (T : RunT K mg) : FnOk P w K mg base CX0 1 f fd ["value"] spIsInt := by
  refine F.ok scIsInt (fun vs H Q E h => ?_) (fun cdv A outer s H vs Q E hr h => ?_)
  · obtain ⟨i, rfl, _⟩ := h
    rfl
  · obtain ⟨i, rfl, q⟩ := h
    refine ⟨_, pss_one (ps_ret (pe_and (pe_callB call_isi (by rfl) T.isinst (by decide +kernel) (pa_cons (pv 0) (pa_cons (pe_bltn (v := .ty "int") (by rfl) T.int (by decide +kernel) rfl) pa_nil)))
      (pe_one (pe_not (pe_callB call_isi (by rfl) T.isinst (by decide +kernel) (pa_cons (pv 0) (pa_cons (pe_bltn (v := .ty "bool") (by rfl) T.bool (by decide +kernel) rfl) pa_nil))))))), ?_⟩
    exact s_ret (ev_andV (a := true) (b := true) (ev_cb (ea_cons (ev_var rfl) (ea_cons ev_c ea_nil)) (rc_isInt (by decide +kernel)))
        (fun _ => ev_notV (a := false) (ev_cb (ea_cons (ev_var rfl) (ea_cons ev_c ea_nil)) (rc_isInt (by decide +kernel))))) q
def spIndex : Sp := fun vs H Q _ => ∃ i n : Int, vs = [.int i, .int n] ∧ RetV (.bl (decide (0 ≤ i) && decide (i < n))) H Q
theorem scIndex : FnScope ["at", "count"] ["at", "count"] (defScope (topS 3)) := ⟨rfl, rfl, rfl, by decide +kernel, rfl, by decide +kernel, by decide +kernel⟩
theorem ok_index {f : Addr} {fd : FuncData} (F : Fun K "is_index" "is_index" (topS 3) f fd) (GI : CalX P w K mg base CX0 1 "is_int" spIsInt) : FnOk P w K mg base CX0 2 f fd ["at", "count"] spIndex := by
  refine F.ok scIndex (fun vs H Q E h => ?_) (fun cdv A outer s H vs Q E hr h => ?_)
  · obtain ⟨i, n, rfl, _⟩ := h
    rfl
  · obtain ⟨i, n, rfl, q⟩ := h
    refine ⟨_, pss_one (ps_ret (pe_and (pe_cx (E := fun _ => E0) GI hr (by decide) (by rfl) at0 (pa_cons (pv 0) pa_nil)) (pe_one (pe_chain op_le op_lt pe_int (pv 0) (pv 1))))), ?_⟩
    exact s_ret (ev_andV (a := true) (ev_cx (ea_cons (ev_var rfl) ea_nil) (fun H1 _ Q' q' E' => ⟨i, rfl, fun H2 e2 => q' H2 e2⟩)) (fun _ => ev_chain ev_c (ev_var rfl) rv_I0 (fun _ => ev_var rfl) (fun _ => rv_I0))) q
end
end Fs

set_option Elab.async false
set_option linter.all false
set_option maxRecDepth 100000
set_option maxHeartbeats 8000000
namespace Fs
open PySem L2 Evl FsE FsC FsR FsK
/-! runs in the heap -/
def RnAt (C : Addr) (H : Hp) (a : Addr) (xs : List V) : Prop := ∃ dx t, H a = some (.ins C dx [("rows", .ref t)]) ∧ H t = some (.tup xs)
theorem RnAt.ex {C : Addr} {H H' : Hp} (e : Ex H H') {a : Addr} {xs : List V} (h : RnAt C H a xs) : RnAt C H' a xs := by
  obtain ⟨dx, t, h1, h2⟩ := h
  exact ⟨dx, t, e _ _ h1, e _ _ h2⟩
theorem RnAt.keep {C : Addr} {H H' : Hp} (e : ExN H H') {a : Addr} {xs : List V} (h : RnAt C H a xs) : RnAt C H' a xs := by
  obtain ⟨dx, t, h1, h2⟩ := h
  exact ⟨dx, t, e.ins _ _ _ _ h1, e.tup _ _ h2⟩
structure RunC (K : PySem.W.Frag) (mg : Str → Option Value) (C : Addr) : Prop where
  cl : Cls K C
  nR : NoAttr K C "rows"
  mgC : mg "Run" = some (.ref C)
theorem rn_lookup {t : Addr} : List.lookup ("rows" : Str) [("rows", V.ref t)] = some (.ref t) := by
  rw [List.lookup_cons, show (("rows" : Str) == "rows") = true from by decide +kernel]
section
variable {σ : L2.St} {H : Hp} {te ta tv : TE} {K : PySem.W.Frag} {C : Addr}
theorem s_fldU {a dx : Addr} {fs : List (Str × V)} {f : Str} {xs : List V} {D : Ends} (hv : EvU tv σ H xs) (ho : ∀ H1, Ex H H1 → Ev ta σ H1 (.ref a)) (hi : H a = some (.ins C dx fs)) (cl : Cls K C) (n : NoAttr K C f) (hl : fs.length < 1000)
    (k : ∀ t H1, H t = none → Ex H H1 → H1 t = some (.tup xs) → D.nx σ (upd H1 a (.ins C dx (putF f (.ref t) fs)))) : sFld K ta tv f D σ H :=
  hv H (Ex.refl H) _ fun t H1 ht e1 h1 => ho H1 e1 H1 (Ex.refl H1) _ fun H2 e2 => ⟨a, C, dx, fs, rfl, (e1.trans e2) _ _ hi, cl, n, hl, k t H2 ht (e1.trans e2) (e2 _ _ h1)⟩
/-- tuple(xs), xs a list -/
theorem eu_tupL {l : Addr} {xs : List V} (h : Ev te σ H (.ref l)) (hl : SqL K H l xs) : EvU (tCB (fun xs H Q => ∃ p ys, xs = [V.ref p] ∧ ((SqL K H p ys ∧ ∀ l, H l = none → Q (.ref l) (upd H l (.tup ys))) ∨ (SqT K H p ys ∧ Q (.ref p) H))) (tCons te tNil)) σ H xs := fun H1 e Q q =>
  h H1 e _ fun H2 e2 => ⟨l, xs, rfl, .inl ⟨ex_l (e.trans e2) hl, fun p hp => q p _ (fresh_back e2 hp) (e2.trans (Ex.new hp)) upd_same⟩⟩
theorem eu_slT {tl th : TO} {a : Addr} {xs : List V} {lo hi : Option Int} (h : Ev te σ H (.ref a)) (h1 : EvO tl σ H lo) (h2 : EvO th σ H hi) (hs : SqT K H a xs) (hw : ¬ (HT.sIx xs.length 0 lo = 0 ∧ HT.sIx xs.length xs.length hi = xs.length)) : EvU (tSl (rSlT K) te tl th) σ H (cutV xs lo hi) := fun H1 e _ q =>
  h H1 e _ fun H2 e2 => h1 H2 (e.trans e2) _ fun H3 e3 => h2 H3 ((e.trans e2).trans e3) _ fun H4 e4 =>
    ⟨a, xs, rfl, ex_t (((e.trans e2).trans e3).trans e4) hs, hw, fun p hp => q p _ (fresh_back ((e2.trans e3).trans e4) hp) (((e2.trans e3).trans e4).trans (Ex.new hp)) upd_same⟩
end
section
variable {P : Program} {w : World} {K : PySem.W.Frag} {mg : Str → Option Value} {base : Heap} {C : Addr}
def spRunInit (K : PySem.W.Frag) (C : Addr) : Sp := fun vs H Q _ => ∃ (a dx l : Addr) (xs : List V) (H0 : Hp), vs = [.ref a, .ref l] ∧ H a = some (.ins C dx []) ∧ H0 a = none ∧ Ex H0 H ∧ SqL K H0 l xs ∧ ∀ H', Ex H0 H' → RnAt C H' a xs → Q .non H'
theorem scRunInit : FnScope ["self", "meetings"] ["self", "meetings"] (defScope (inClass (topS 11) 0)) := ⟨rfl, rfl, rfl, by decide +kernel, rfl, by decide +kernel, by decide +kernel⟩
theorem ok_runinit {f : Addr} {fd : FuncData} (F : Fun K "__init__" "Run.__init__" (inClass (topS 11) 0) f fd) (T : RunT K mg) (R : RunC K mg C) : FnOk P w K mg base CX0 1 f fd ["self", "meetings"] (spRunInit K C) := by
  refine F.ok scRunInit (fun vs H Q E h => ?_) (fun cdv A outer s H vs Q E hr h => ?_)
  · obtain ⟨a, dx, l, xs, H0, rfl, _⟩ := h
    rfl
  · obtain ⟨a, dx, l, xs, H0, rfl, ha, hna, e0, hl, q⟩ := h
    refine ⟨_, pss_one (ps_fld (pv 0) (pe_callTy call_tuple_of (by rfl) T.tuple (by decide +kernel) (pa_cons (pv 1) pa_nil)) rfl), ?_⟩
    refine s_fldU (xs := xs) (eu_tupL (ev_var rfl) (ex_l e0 hl)) (fun H1 e1 => ev_var rfl) ha R.cl R.nR (by show 0 < 1000; decide) (fun t H1 ht e1 h1 => ?_)
    have hne : t ≠ a := fun z => by
      subst z
      rw [ha] at ht
      cases ht
    exact q _ (Ex.mut (e0.trans e1) hna) ⟨dx, t, upd_same, by rw [upd_ne hne]; exact h1⟩
def spRunLen (C : Addr) : Sp := fun vs H Q _ => ∃ (a : Addr) (xs : List V), vs = [.ref a] ∧ RnAt C H a xs ∧ RetV (.int (xs.length : Int)) H Q
theorem scRunLen : FnScope ["self"] ["self"] (defScope (inClass (topS 11) 2)) := ⟨rfl, rfl, rfl, by decide +kernel, rfl, by decide +kernel, by decide +kernel⟩
theorem ok_runlen {f : Addr} {fd : FuncData} (F : Fun K "__len__" "Run.__len__" (inClass (topS 11) 2) f fd) (T : RunT K mg) (R : RunC K mg C) : FnOk P w K mg base CX0 1 f fd ["self"] (spRunLen C) := by
  refine F.ok scRunLen (fun vs H Q E h => ?_) (fun cdv A outer s H vs Q E hr h => ?_)
  · obtain ⟨a, xs, rfl, _⟩ := h
    rfl
  · obtain ⟨a, xs, rfl, ⟨dx, t, h1, h2⟩, q⟩ := h
    refine ⟨_, pss_one (ps_ret (pe_callB call_len_seq (by rfl) T.len PySem.boot_len (pa_cons (pe_fld (pv 0) rfl) pa_nil))), ?_⟩
    exact s_ret (ev_lenT (K := K) (ev_fld (ev_var rfl) h1 R.cl R.nR rn_lookup) (st_of h2)) q
def spRunGet (C : Addr) : Sp := fun vs H Q _ => ∃ (a : Addr) (xs : List V) (i : Nat) (v : V), vs = [.ref a, .int (i : Int)] ∧ RnAt C H a xs ∧ xs[i]? = some v ∧ RetV v H Q
theorem scRunGet : FnScope ["self", "at"] ["self", "at"] (defScope (inClass (topS 11) 4)) := ⟨rfl, rfl, rfl, by decide +kernel, rfl, by decide +kernel, by decide +kernel⟩
theorem ok_runget {f : Addr} {fd : FuncData} (F : Fun K "__getitem__" "Run.__getitem__" (inClass (topS 11) 4) f fd) (T : RunT K mg) (R : RunC K mg C) (GX : CalX P w K mg base CX0 2 "is_index" spIndex) : FnOk P w K mg base CX0 3 f fd ["self", "at"] (spRunGet C) := by
  refine F.ok scRunGet (fun vs H Q E h => ?_) (fun cdv A outer s H vs Q E hr h => ?_)
  · obtain ⟨a, xs, i, v, rfl, _⟩ := h
    rfl
  · obtain ⟨a, xs, i, v, rfl, ⟨dx, t, h1, h2⟩, hv, q⟩ := h
    refine ⟨_, pss_cons (ps_if (pt_not (pt_val (pe_cx (E := fun _ => E0) GX hr (by decide) (by rfl) at0 (pa_cons (pv 1) (pa_cons (pe_callB call_len_seq (by rfl) T.len PySem.boot_len (pa_cons (pe_fld (pv 0) rfl) pa_nil)) pa_nil))))) pss_never pss_nil)
      (pss_one (ps_ret (pe_ix ix_tup (pe_fld (pv 0) rfl) (pv 1) (fun _ _ => rfl)))), ?_⟩
    have hi := (List.getElem?_eq_some_iff.mp hv).1
    refine q_when (b := false) (et_is (et_not (et_B (ev_cx (z := .bl (decide (0 ≤ (i : Int)) && decide ((i : Int) < (xs.length : Int)))) (ea_cons (ev_var rfl) (ea_cons (ev_lenT (K := K) (ev_fld (ev_var rfl) h1 R.cl R.nR rn_lookup) (st_of h2)) ea_nil)) (fun H1 _ Q' q' E' => ⟨_, _, rfl, fun H2 e2 => q' H2 e2⟩)))) (by
      rw [decide_eq_true (show (0 : Int) ≤ (i : Int) by omega), decide_eq_true (show (i : Int) < (xs.length : Int) by omega)]; rfl)) (fun hb => nomatch hb) (fun _ H1 e1 => ?_)
    exact s_ret (v := v) (ev_op (y := .int (i : Int)) (ev_fld (ev_var rfl) (e1 _ _ h1) R.cl R.nR rn_lookup) (ev_var rfl) (rv_ixT (st_of (e1 _ _ h2)) (atI_nat hv))) (fun H2 e2 => q H2 (e1.trans e2))
def mssF (mss : List (List Int)) (k : Nat) : List Int := mss.getD k []
theorem rw_get {H : Hp} {xs : List V} {mss : List (List Int)} {i : Nat} (h : RwAt H xs mss) (hm : MsOk mss) (hi : i < xs.length) : ∃ v, xs[i]? = some v ∧ MtAt H v (mssF mss i) ∧ (mssF mss i).length ≤ 20 := by
  obtain ⟨v, ms, h1, h2, h3⟩ := LsA.at_ h hi
  have e : mssF mss i = ms := by
    unfold mssF
    rw [List.getD_eq_getElem?_getD, h2]
    rfl
  refine ⟨v, h1, by rw [e]; exact h3, ?_⟩
  rw [e]
  exact hm.2 _ (List.mem_of_getElem? h2)
theorem ev_ixO {σ : L2.St} {H : Hp} {ta tb : TE} {E : L2.St → XK} {a : Addr} {xs : List V} {i : Nat} {v : V} (ha : Ev ta σ H (.ref a)) (hb : Ev tb σ H (.int (i : Int))) (hr : RnAt C H a xs) (hv : xs[i]? = some v) : Ev (tIxO C (spRunGet C) E ta tb) σ H v := fun H1 e Q q =>
  ha H1 e _ fun H2 e2 => hb H2 (e.trans e2) _ fun H3 e3 => by
    have r3 := hr.ex ((e.trans e2).trans e3)
    have r3' := r3
    obtain ⟨dx, t, h1, h2⟩ := r3'
    exact ⟨a, dx, _, rfl, h1, a, xs, i, v, rfl, r3, hv, fun H4 e4 => q H4 ((e2.trans e3).trans e4)⟩
end
end Fs

set_option Elab.async false
set_option linter.all false
set_option maxRecDepth 100000
set_option maxHeartbeats 8000000
namespace Fs
open PySem L2 Evl FsE FsC FsR FsK
theorem row_get0 {row : List Int} {n i : Nat} (hl : row.length = n) (hr : RowOk row) (hi : i < n) : ∃ v, atI (row.map V.int) (i : Int) = some (.int v) ∧ 0 ≤ v ∧ v < 1000 := by
  have h : i < row.length := by omega
  refine ⟨row[i], atI_nat (by rw [List.getElem?_map, List.getElem?_eq_getElem h]; rfl), ?_⟩
  exact hr _ (List.getElem_mem h)
section
variable {σ : L2.St} {H : Hp} {te ta tb : TE} {K : PySem.W.Frag} {C : Addr}
/-- arguments, with a word of their values -/
def EaW (ta : TA) (σ : L2.St) (H : Hp) (Pv : List V → Hp → Prop) : Prop := ∀ H1, Ex H H1 → ∀ Q : List V → Hp → Prop, (∀ vs H2, Ex H1 H2 → Pv vs H2 → Q vs H2) → ta σ H1 Q
/-- a new list of ints -/
def NwI (H0 H : Hp) (v : V) (ms : List Int) : Prop := ∃ l, v = .ref l ∧ H0 l = none ∧ H l = some (.lst (ms.map V.int))
theorem eaw_nil {H0 : Hp} : EaW tNil σ H (fun vs H' => LsA (NwI H0) H' vs []) := fun H1 e Q q => q [] H1 (Ex.refl H1) trivial
theorem eaw_cons {H0 : Hp} {tr : TA} {ms : List Int} {mss : List (List Int)} (e0 : Ex H0 H) (h : EvL te σ H (ms.map V.int)) (hr : EaW tr σ H (fun vs H' => LsA (NwI H0) H' vs mss)) : EaW (tCons te tr) σ H (fun vs H' => LsA (NwI H0) H' vs (ms :: mss)) := fun H1 e Q q =>
  h H1 e _ fun p H2 hp e2 h2 => hr H2 (e.trans e2) _ fun vs H3 e3 hv => q (.ref p :: vs) H3 (e2.trans e3) ⟨⟨p, rfl, fresh_back (e0.trans e) hp, e3 _ _ h2⟩, hv⟩
theorem eaw_n {ta' : TA} {vs : List V} (h : EvA ta' σ H vs) : EaW ta' σ H (fun ws _ => ws.length = vs.length) := fun H1 e Q q => h H1 e _ fun H2 e2 => q vs H2 e2 rfl
theorem eawl_nil : EaW tNil σ H (fun vs _ => vs.length = 0) := fun H1 e Q q => q [] H1 (Ex.refl H1) rfl
theorem eawl_v {tr : TA} {n : Nat} {v : V} (h : Ev te σ H v) (hr : EaW tr σ H (fun vs _ => vs.length = n)) : EaW (tCons te tr) σ H (fun vs _ => vs.length = n + 1) := fun H1 e Q q =>
  h H1 e _ fun H2 e2 => hr H2 (e.trans e2) _ fun vs H3 e3 hv => q (v :: vs) H3 (e2.trans e3) (congrArg (· + 1) hv)
theorem eawl_u {tr : TA} {n : Nat} {xs : List V} (h : EvU te σ H xs) (hr : EaW tr σ H (fun vs _ => vs.length = n)) : EaW (tCons te tr) σ H (fun vs _ => vs.length = n + 1) := fun H1 e Q q =>
  h H1 e _ fun p H2 hp e2 h2 => hr H2 (e.trans e2) _ fun vs H3 e3 hv => q (.ref p :: vs) H3 (e2.trans e3) (congrArg (· + 1) hv)
/-- a meeting made -/
theorem evs_mt {cs ps : List V} {ns : List Int} (h1 : EvU ta σ H cs) (h2 : EvU tb σ H ps) (hp : LsA PtAt H ps ns) : EvS (tTup (tCons ta (tCons tb tNil))) σ H (fun v H' => MtAt H' v ns) := fun H1 e Q q =>
  h1 H1 e _ fun p H2 hp2 e2 k2 => h2 H2 (e.trans e2) _ fun t H3 ht3 e3 k3 => ⟨by show 2 ≤ sizeLine; decide, fun u hu => q (.ref u) _ (e2.trans (e3.trans (Ex.new hu))) ⟨u, t, .ref p, ps, rfl, upd_same, Ex.new hu _ _ k3, hp.imp fun _ _ k => k.keep (ExN.of (e.trans (e2.trans (e3.trans (Ex.new hu)))))⟩⟩
/-- [..][i] -/
theorem evs_ix {ta : TA} {i : Int} {Pv : List V → Hp → Prop} (h : EaW ta σ H Pv) (hz : ∀ vs H', Pv vs H' → vs.length ≤ 1000 ∧ 0 ≤ i ∧ i < vs.length) (hb : ∀ H1, Ex H H1 → Ev tb σ H1 (.int i)) :
    EvS (tOp (rIxL K) (tLst ta) tb) σ H (fun v H' => ∃ (vs : List V) (H0 : Hp) (j : Nat), Ex H0 H' ∧ Pv vs H0 ∧ vs[j]? = some v ∧ (j : Int) = i) := fun H1 e Q q =>
  h H1 e _ fun vs H2 e2 hv => by
    obtain ⟨z1, z2, z3⟩ := hz vs H2 hv
    refine ⟨sz_of (by omega), fun p hp => ?_⟩
    refine hb _ ((e.trans e2).trans (Ex.new hp)) _ (Ex.refl _) _ fun H3 e3 => ?_
    have hj : i.toNat < vs.length := by omega
    refine ⟨p, vs, i, vs[i.toNat], rfl, rfl, sq_of (e3 _ _ upd_same), ?_, q _ H3 (e2.trans ((Ex.new hp).trans e3)) ⟨vs, H2, i.toNat, (Ex.new hp).trans e3, hv, List.getElem?_eq_getElem hj, by omega⟩⟩
    have := atI_nat (xs := vs) (j := i.toNat) (List.getElem?_eq_getElem hj)
    rwa [show ((i.toNat : Nat) : Int) = i by omega] at this
end
section
variable {P : Program} {w : World} {K : PySem.W.Frag} {mg : Str → Option Value} {base : Heap} {C : Addr}
/-- _law_meetings(row) -/
def spMeetings : Sp := fun vs H Q _ => ∃ (r : Addr) (row : List Int), vs = [.ref r] ∧ H r = some (.lst (row.map V.int)) ∧ row.length = 20 ∧ RowOk row ∧ ∀ p H2 xs mss, H p = none → Ex H H2 → H2 p = some (.lst xs) → RwAt H2 xs mss → MsOk mss → Q (.ref p) H2
abbrev nsMee : List Str := ["_law_row_here", "_law_found", "_law_k", "_law_at", "_law_parts", "_law_machines", "_law_machine", "_law_worth"]
theorem scMee : FnScope nsMee ["_law_row_here"] (defScope (topS 19)) := ⟨rfl, rfl, rfl, by decide +kernel, rfl, by decide +kernel, by decide +kernel⟩
def machT : List (List Int) := [[0, 1], [1, 2], [2, 0], [3, 1], [0], [2, 3, 0], [], [1, 1], [4, 2], [3]]
theorem mach_len : ∀ ms ∈ machT, ms.length ≤ 3 := by decide
theorem at_of0 {α : Type} {xs : List α} {i : Int} (h0 : 0 ≤ i) (h1 : i < xs.length) : ∃ (j : Nat) (x : α), xs[j]? = some x ∧ atI xs i = some x := by
  obtain ⟨j, rfl⟩ : ∃ j : Nat, i = (j : Int) := ⟨i.toNat, by omega⟩
  have hj : j < xs.length := by omega
  exact ⟨j, xs[j], List.getElem?_eq_getElem hj, atI_nat (List.getElem?_eq_getElem hj)⟩
theorem lsa_get {α : Type} {R : Hp → V → α → Prop} {H : Hp} {vs : List V} {xs : List α} {j : Nat} {v : V} (h : LsA R H vs xs) (hv : vs[j]? = some v) : ∃ x ∈ xs, R H v x := by
  obtain ⟨x, h1, h2⟩ := LsA.get h hv
  exact ⟨x, List.mem_of_getElem? h1, h2⟩
theorem ok_mee {f : Addr} {fd : FuncData} (F : Fun K "_law_meetings" "_law_meetings" (topS 19) f fd) (L : LawT K mg) (htup : mg "tuple" = none) : FnOk P w K mg base CX0 1 f fd ["_law_row_here"] spMeetings := by
  refine F.ok scMee (fun vs H Q E h => ?_) (fun cdv A outer s H vs Q E hr h => ?_)
  · obtain ⟨r, row, rfl, _⟩ := h
    rfl
  · obtain ⟨r, row, rfl, hR, hl, hok, q⟩ := h
    refine ⟨_, pss_cons (ps_set (i := 1) scMee.nd rfl (Or.inl rfl) (pe_lst pa_nil))
      (pss_cons (ps_for PassesOwn.never rfl (pi_range1 rfl L.range (pa_cons (pe_op op_mod (pe_op op_fdiv (pe_ix ix_list (pv 0) pe_int (fun _ _ => rfl)) pe_int) pe_int) pa_nil)) (pg_name (i := 2) scMee.nd rfl (Or.inl rfl))
        (pss_cons (ps_set (i := 3) scMee.nd rfl (Or.inl rfl) (pe_op op_add pe_int (pe_op op_mul pe_int (pv 2))))
        (pss_cons (ps_set (i := 4) scMee.nd rfl (Or.inl rfl) (pe_lst pa_nil))
        (pss_cons (ps_set (i := 5) scMee.nd rfl (Or.inl rfl) (pe_ix ix_list (pe_lst (pa_cons (pe_lst (pa_cons pe_int (pa_cons pe_int pa_nil))) (pa_cons (pe_lst (pa_cons pe_int (pa_cons pe_int pa_nil))) (pa_cons (pe_lst (pa_cons pe_int (pa_cons pe_int pa_nil))) (pa_cons (pe_lst (pa_cons pe_int (pa_cons pe_int pa_nil))) (pa_cons (pe_lst (pa_cons pe_int pa_nil))
            (pa_cons (pe_lst (pa_cons pe_int (pa_cons pe_int (pa_cons pe_int pa_nil)))) (pa_cons (pe_lst pa_nil) (pa_cons (pe_lst (pa_cons pe_int (pa_cons pe_int pa_nil))) (pa_cons (pe_lst (pa_cons pe_int (pa_cons pe_int pa_nil))) (pa_cons (pe_lst (pa_cons pe_int pa_nil)) pa_nil)))))))))))
            (pe_op op_mod (pe_callTy call_int1 (by rfl) L.int (by decide +kernel) (pa_cons (pe_ix ix_list (pv 0) (pv 3) (fun _ _ => rfl)) pa_nil)) pe_int) (fun _ _ => rfl)))
        (pss_cons (ps_for PassesOwn.never rfl (pi_list (pv 5)) (pg_name (i := 6) scMee.nd rfl (Or.inl rfl))
          (pss_cons (ps_set (i := 7) scMee.nd rfl (Or.inl rfl) (pe_ix ix_list (pe_lst (pa_cons pe_int (pa_cons (pe_tup (pa_cons pe_int (pa_cons pe_int (pa_cons pe_int pa_nil)))) (pa_cons (pe_un un_neg pe_int) (pa_cons (pe_tup (pa_cons pe_int (pa_cons pe_int (pa_cons pe_int pa_nil)))) pa_nil)))))
            (pe_op op_mod (pe_op op_fdiv (pe_ix ix_list (pv 0) (pe_op op_add (pv 3) pe_int) (fun _ _ => rfl)) pe_int) pe_int) (fun _ _ => rfl)))
          (pss_one (ps_expr (pe_bm PySem.F.plainAttrs_list PySem.F.slot_list_append PySem.F.type_list_append mt_append (pv 4) (pa_cons (pe_tup (pa_cons (pv 6) (pa_cons (pe_op op_mod (pe_op op_fdiv (pe_ix ix_list (pv 0) (pe_op op_add (pv 3) pe_int) (fun _ _ => rfl)) pe_int) pe_int) (pa_cons (pe_op op_mod (pe_op op_fdiv (pe_ix ix_list (pv 0) (pv 3) (fun _ _ => rfl)) pe_int) pe_int) (pa_cons (pv 7) pa_nil))))) pa_nil))))))
        (pss_one (ps_expr (pe_bm PySem.F.plainAttrs_list PySem.F.slot_list_append PySem.F.type_list_append mt_append (pv 1) (pa_cons (pe_tup (pa_cons (pe_tup (pa_cons (pe_op op_mod (pe_op op_fdiv (pe_ix ix_list (pv 0) (pv 3) (fun _ _ => rfl)) pe_int) pe_int) (pa_cons (pe_op op_mod (pe_op op_fdiv (pe_ix ix_list (pv 0) (pv 3) (fun _ _ => rfl)) pe_int) pe_int) (pa_cons (pe_callB call_len_seq (by rfl) L.len PySem.boot_len (pa_cons (pv 4) pa_nil)) pa_nil))))
            (pa_cons (pe_callTy call_tuple_of (by rfl) htup (by decide +kernel) (pa_cons (pv 4) pa_nil)) pa_nil))) pa_nil)))))))))
      (pss_cons (ps_if (PW.pt (pw_and (pt_cmpR (op_neNil hr.units0) (pv 1) (pe_lst pa_nil) (nomark _)) (pw_and1 (pt_cmpR op_eq (pe_op op_mod (pe_callTy call_int1 (by rfl) L.int (by decide +kernel) (pa_cons (pe_ix ix_list (pv 0) pe_int (fun _ _ => rfl)) pa_nil)) pe_int) pe_int (nomark _)))))
        (pss_one (ps_expr (pe_bm PySem.F.plainAttrs_list PySem.F.slot_list_append PySem.F.type_list_append mt_append (pv 1) (pa_cons (pe_ix ix_list (pv 1) (pe_op op_mod (pe_op op_fdiv (pe_ix ix_list (pv 0) pe_int (fun _ _ => rfl)) pe_int) (pe_callB call_len_seq (by rfl) L.len PySem.boot_len (pa_cons (pv 1) pa_nil))) (fun _ _ => rfl)) pa_nil)))) pss_nil)
      (pss_one (ps_ret (pv 1))))), ?_⟩
    obtain ⟨v0, av0, b0, b1⟩ := row_get0 hl hok (i := 0) (by decide)
    have av0 : atI (row.map V.int) 0 = some (.int v0) := av0
    have n0 := Int.emod_nonneg (v0 / 4) (b := 10) (by decide)
    have n1 := Int.emod_lt_of_pos (v0 / 4) (b := 10) (by decide)
    have frow : ∀ {σ : L2.St} {H9 : Hp} {tb : TE} {i : Nat} {v : Int}, σ[0]? = some (some (.ref r)) → Ex H H9 → atI (row.map V.int) (i : Int) = some (.int v) → Ev tb σ H9 (.int (i : Int)) → Ev (tOp (rIxL K) (tVar 0) tb) σ H9 (.int v) := fun hσ e ha hb => ev_op (ev_var hσ) hb (rv_ixL (sq_of (e _ _ hR)) ha)
    refine q_asgL (xs := []) (el_lst ea_nil (by decide)) (fun l H1 hl1 e1 h1 => ?_)
    refine q_forR1 (n := v0 / 4 % 10) (ea_cons (ev_op (x := .int (v0 / 4)) (ev_op (x := .int v0) (y := .int 4) (ev_op (y := .int 0) (ev_var rfl) ev_c (rv_ixL (sq_of (e1 _ _ hR)) av0)) ev_c (rv_I ⟨by decide, by decide⟩)) ev_c (rv_I (by decide))) ea_nil) (by omega)
      (fun k σ' H' => ∃ (v2 v3 v4 v5 v6 v7 : Option V) (xs : List V) (mss : List (List Int)), σ' = [some (.ref r), some (.ref l), v2, v3, v4, v5, v6, v7] ∧ Ex H H' ∧ H' l = some (.lst xs) ∧ RwAt H' xs mss ∧ mss.length = k ∧ ∀ ms ∈ mss, ms.length ≤ 3)
      (fun H2 e2 => ⟨_, _, _, _, _, _, [], [], rfl, e1.trans e2, e2 _ _ h1, trivial, rfl, fun ms hm => nomatch hm⟩) (fun k σ' H' hk ⟨v2, v3, v4, v5, v6, v7, xs, mss, hσ, he, hx, hw, hc, hs3⟩ => ?_) (fun σ' H' ⟨v2, v3, v4, v5, v6, v7, xs, mss, hσ, he, hx, hw, hc, hs3⟩ => ?_)
    · subst hσ
      have hk9 : k ≤ 8 := by omega
      obtain ⟨va, ava, a0, a1⟩ := row_get0 hl hok (i := 1 + 2 * k) (by omega)
      obtain ⟨vb, avb, c0, c1⟩ := row_get0 hl hok (i := 1 + 2 * k + 1) (by omega)
      refine q_asg (v := .int ((1 + 2 * k : Nat) : Int)) (ev_is (ev_op (x := .int 1) ev_c (ev_op (x := .int 2) (y := .int (k : Int)) ev_c (ev_var rfl) (rv_I (C := CMul) (.inl ⟨by decide, by decide⟩))) rv_I0) (congrArg V.int (by omega))) (fun H2 e2 => ?_)
      refine q_asgL (xs := []) (el_lst ea_nil (by decide)) (fun lp H3 hl3 e3 h3 => ?_)
      have x2 := he.trans e2
      have x3 := x2.trans e3
      have eI : ∀ {a b : Int} {σ : L2.St} {H9 : Hp}, EvL (tLst (tCons (tC (.int a)) (tCons (tC (.int b)) tNil))) σ H9 (([a, b] : List Int).map V.int) := fun {a b σ H9} => el_lst (ea_cons ev_c (ea_cons ev_c ea_nil)) (by show 2 ≤ 100000; decide)
      have eI1 : ∀ {a : Int} {σ : L2.St} {H9 : Hp}, EvL (tLst (tCons (tC (.int a)) tNil)) σ H9 (([a] : List Int).map V.int) := fun {a σ H9} => el_lst (ea_cons ev_c ea_nil) (by show 1 ≤ 100000; decide)
      have eI3 : ∀ {a b c : Int} {σ : L2.St} {H9 : Hp}, EvL (tLst (tCons (tC (.int a)) (tCons (tC (.int b)) (tCons (tC (.int c)) tNil)))) σ H9 (([a, b, c] : List Int).map V.int) := fun {a b c σ H9} => el_lst (ea_cons ev_c (ea_cons ev_c (ea_cons ev_c ea_nil))) (by show 3 ≤ 100000; decide)
      have eI0 : ∀ {σ : L2.St} {H9 : Hp}, EvL (tLst tNil) σ H9 (([] : List Int).map V.int) := fun {σ H9} => el_lst ea_nil (by show 0 ≤ 100000; decide)
      have r3 : Ex H3 H3 := Ex.refl H3
      refine q_asgS (evs_ix (K := K) (i := va % 10) (Pv := fun vs H' => LsA (NwI H3) H' vs machT) (eaw_cons r3 eI (eaw_cons r3 eI (eaw_cons r3 eI (eaw_cons r3 eI (eaw_cons r3 eI1 (eaw_cons r3 eI3 (eaw_cons r3 eI0 (eaw_cons r3 eI (eaw_cons r3 eI (eaw_cons r3 eI1 eaw_nil))))))))))
        (fun vs H9 hv => by have := LsA.length hv; have h10 : machT.length = 10 := rfl; have := Int.emod_nonneg va (b := 10) (by decide); have := Int.emod_lt_of_pos va (b := 10) (by decide); omega)
        (fun H9 e9 => ev_op (x := .int va) (ev_cb (ea_cons (frow rfl (x3.trans e9) ava (ev_var rfl)) ea_nil) (rc_int (K := K))) ev_c (rv_I (by decide)))) (fun v H4 e4 ⟨vs, H0, j, f0, hv, hj, _⟩ => ?_)
      obtain ⟨ns, hns, lm, rfl, hlm, hlm2⟩ := lsa_get hv hj
      have hlm4 := f0 _ _ hlm2
      have hn3 := mach_len ns hns
      have nlm : lm ≠ lp := fun z => by
        subst z
        rw [h3] at hlm
        cases hlm
      have nl : l ≠ lp := fun z => by
        subst z
        rw [e2 _ _ hx] at hl3
        cases hl3
      refine q_forLn (a := lm) (xs := ns.map V.int) (ev_var rfl) (sq_of hlm4) (fun i σ' H' => ∃ (v6 v7 : Option V) (ps : List V), i ≤ ns.length ∧ σ' = [some (.ref r), some (.ref l), some (.int (k : Int)), some (.int ((1 + 2 * k : Nat) : Int)), some (.ref lp), some (.ref lm), v6, v7] ∧ Ex H2 H' ∧ H' lm = some (.lst (ns.map V.int)) ∧ H' lp = some (.lst ps) ∧ LsA PtAt H' ps (ns.take i))
        (fun H5 e5 => ⟨_, _, [], Nat.zero_le _, rfl, e3.trans (e4.trans e5), e5 _ _ hlm4, (e4.trans e5) _ _ h3, by rw [List.take_zero]; trivial⟩) (fun i σ' H' _ ⟨_, _, _, _, _, _, hm, _⟩ => sq_of hm) (fun i x σ' H' hxi ⟨u6, u7, ps, hi, hσ, hE, hm, hpl, hpp⟩ => ?_) (fun σ' H' ⟨u6, u7, ps, hi, hσ, hE, hm, hpl, hpp⟩ => ?_)
      · subst hσ
        obtain ⟨m, hmi, rfl⟩ : ∃ m, ns[i]? = some m ∧ x = V.int m := by
          rw [List.getElem?_map] at hxi
          cases e : ns[i]? with
          | none => rw [e] at hxi; cases hxi
          | some m => rw [e] at hxi; exact ⟨m, rfl, (Option.some.inj hxi).symm⟩
        have hilt := (List.getElem?_eq_some_iff.mp hmi).1
        have eb : ∀ {σ : L2.St} {H9 : Hp}, σ[0]? = some (some (.ref r)) → σ[3]? = some (some (.int ((1 + 2 * k : Nat) : Int))) → Ex H H9 → Ev (tOp (rIxL K) (tVar 0) (tOp (rI0 fun i j => .int (i + j)) (tVar 3) (tC (.int 1)))) σ H9 (.int vb) := fun hσ h3 e => frow hσ e avb (ev_is (ev_op (ev_var h3) ev_c rv_I0) (congrArg V.int (by omega)))
        refine q_asgS (evs_ix (K := K) (i := vb / 6 % 4) (Pv := fun vs _ => vs.length = 4) (eawl_v ev_c (eawl_u (eu_tup (ea_cons ev_c (ea_cons ev_c (ea_cons ev_c ea_nil))) (by show 3 ≤ 100000; decide)) (eawl_v (ev_un ev_c ru_neg) (eawl_u (eu_tup (ea_cons ev_c (ea_cons ev_c (ea_cons ev_c ea_nil))) (by show 3 ≤ 100000; decide)) eawl_nil))))
          (fun vs H9 hv => by have := Int.emod_nonneg (vb / 6) (b := 4) (by decide); have := Int.emod_lt_of_pos (vb / 6) (b := 4) (by decide); omega)
          (fun H9 e9 => ev_op (x := .int (vb / 6)) (ev_op (x := .int vb) (y := .int 6) (eb rfl rfl (x2.trans (hE.trans e9))) ev_c (rv_I ⟨by decide, by decide⟩)) ev_c (rv_I (by decide)))) (fun wv H5 e5 _ => ?_)
        have y5 := x2.trans (hE.trans e5)
        refine s_appU (xs := ps) (ys := [.int m, .int (vb / 24 % 3), .int (va / 10 % 2), wv]) (e5 _ _ hpl) (ev_var rfl) (eu_tup (ea_cons (ev_var rfl) (ea_cons (ev_op (x := .int (vb / 24)) (ev_op (x := .int vb) (y := .int 24) (eb rfl rfl y5) ev_c (rv_I ⟨by decide, by decide⟩)) ev_c (rv_I (by decide))) (ea_cons (ev_op (x := .int (va / 10)) (ev_op (x := .int va) (y := .int 10) (frow rfl y5 ava (ev_var rfl)) ev_c (rv_I ⟨by decide, by decide⟩)) ev_c (rv_I (by decide))) (ea_cons (ev_var rfl) ea_nil)))) (by show 4 ≤ 100000; decide)) (by have := LsA.length hpp; rw [List.length_take] at this; omega) (fun p H6 hp e6 h6 => ?_)
        have hpl6 := (e5.trans e6) _ _ hpl
        refine ⟨_, _, ps ++ [.ref p], by omega, rfl, Ex.mut (hE.trans (e5.trans e6)) hl3, by rw [upd_ne nlm]; exact (e5.trans e6) _ _ hm, upd_same, ?_⟩
        rw [List.take_add_one, hmi]
        exact LsA.snoc (hpp.imp fun _ _ z => z.keep ((ExN.of (e5.trans e6)).trans (ExN.upd hpl6))) ⟨p, _, _, _, rfl, (ExN.upd hpl6).tup _ _ h6⟩
      · subst hσ
        rw [List.length_map, List.take_length] at hpp
        have hx' := hE _ _ (e2 _ _ hx)
        have y := x2.trans hE
        refine s_appS (xs := xs) hx' (ev_var rfl) (evs_mt (cs := [.int (va / 20 % 2), .int (va / 40 % 2), .int (ps.length : Int)]) (ps := ps) (ns := ns) (eu_tup (ea_cons (ev_op (x := .int (va / 20)) (ev_op (x := .int va) (y := .int 20) (frow rfl y ava (ev_var rfl)) ev_c (rv_I ⟨by decide, by decide⟩)) ev_c (rv_I (by decide))) (ea_cons (ev_op (x := .int (va / 40)) (ev_op (x := .int va) (y := .int 40) (frow rfl y ava (ev_var rfl)) ev_c (rv_I ⟨by decide, by decide⟩)) ev_c (rv_I (by decide))) (ea_cons (ev_len (K := K) (ev_var rfl) (sq_of hpl)) ea_nil))) (by show 3 ≤ 100000; decide)) (eu_tupL (ev_var rfl) (sq_of hpl)) hpp) (by have := LsA.length hw; omega) (fun mv H7 e7 hmt => ?_)
        have hx7 := e7 _ _ hx'
        refine ⟨_, _, _, _, _, _, xs ++ [mv], mss ++ [ns], rfl, Ex.mut (y.trans e7) hl1, upd_same, ?_, by rw [List.length_append, hc]; rfl, fun ms hm => ?_⟩
        · exact LsA.snoc (LsA.imp (fun _ _ z => MtAt.keep ((ExN.of ((e2.trans hE).trans e7)).trans (ExN.upd hx7)) z) hw) (hmt.keep (ExN.upd hx7))
        · rcases List.mem_append.mp hm with hm | hm
          · exact hs3 ms hm
          · rw [List.mem_singleton.mp hm]
            exact hn3
    · subst hσ
      have hcn : mss.length ≤ 9 := by omega
      have hlx := LsA.length hw
      refine q_when (b := (!xs.isEmpty) && decide (V.int (v0 % 4) = V.int 0)) (et_and (et_test (ev_opL (ev_var rfl) (el_lst ea_nil (by decide)) (fun p H9 hp e9 => rv_neNil (sq_of (e9 _ _ hx)) (sq_of hp)))) (fun _ => et_test (ev_op (x := .int (v0 % 4)) (ev_op (x := .int v0) (ev_cb (ea_cons (ev_op (y := .int 0) (ev_var rfl) ev_c (rv_ixL (sq_of (he _ _ hR)) av0)) ea_nil) (rc_int (K := K))) ev_c (rv_I (by decide))) ev_c (rv_eq rfl)))) (fun hb H3 e3 => ?_) (fun hb H3 e3 => ?_)
      · have hne : 0 < xs.length := by
          rw [Bool.and_eq_true] at hb
          cases xs with
          | nil => exact absurd hb.1 (by decide)
          | cons a b => simp
        have hpos : (0 : Int) < (xs.length : Int) := by omega
        obtain ⟨j, x, hj, aj⟩ := at_of0 (xs := xs) (i := v0 / 40 % (xs.length : Int)) (Int.emod_nonneg _ (by omega)) (Int.emod_lt_of_pos _ hpos)
        obtain ⟨ms, hms, hmx⟩ := lsa_get hw hj
        have hx3 := e3 _ _ hx
        refine s_app (xs := xs) (v := x) hx3 (ev_var rfl) (ev_op (y := .int (v0 / 40 % (xs.length : Int))) (ev_var rfl) (ev_op (x := .int (v0 / 40)) (y := .int (xs.length : Int)) (ev_op (x := .int v0) (y := .int 40) (ev_op (y := .int 0) (ev_var rfl) ev_c (rv_ixL (sq_of ((he.trans e3) _ _ hR)) av0)) ev_c (rv_I ⟨by decide, by decide⟩)) (ev_len (K := K) (ev_var rfl) (sq_of hx3)) (rv_I hpos)) (rv_ixL (sq_of hx3) aj)) (by omega) (fun H4 e4 => ?_)
        have hx4 := e4 _ _ hx3
        have kp := (ExN.of (e3.trans e4)).trans (ExN.upd (ys := xs ++ [x]) hx4)
        refine s_ret (ev_var rfl) (fun H5 e5 => q l H5 (xs ++ [x]) (mss ++ [ms]) (fresh_back (Ex.refl H) hl1) ((Ex.mut ((he.trans e3).trans e4) hl1).trans e5) (e5 _ _ upd_same) (RwAt.ex e5 (LsA.snoc (LsA.imp (fun _ _ z => MtAt.keep kp z) hw) (hmx.keep kp))) ⟨by rw [List.length_append]; show _ + 1 ≤ 10; omega, fun m hm => ?_⟩)
        rcases List.mem_append.mp hm with hm | hm
        · have := hs3 m hm
          omega
        · rw [List.mem_singleton.mp hm]
          have := hs3 ms hms
          omega
      · exact s_ret (ev_var rfl) (fun H5 e5 => q l H5 xs mss hl1 ((he.trans e3).trans e5) ((e3.trans e5) _ _ hx) (RwAt.ex (e3.trans e5) hw) ⟨by omega, fun m hm => by have := hs3 m hm; omega⟩)
end
end Fs

set_option Elab.async false
set_option linter.all false
set_option maxRecDepth 100000
set_option maxHeartbeats 8000000
namespace Fs
open PySem L2 Evl FsE FsC FsR FsK
section
variable {P : Program} {w : World} {K : PySem.W.Frag} {mg : Str → Option Value} {base : Heap} {C : Addr}
/-- _law_rows(run) -/
def spLRows (C : Addr) : Sp := fun vs H Q _ => ∃ (a : Addr) (xs : List V), vs = [.ref a] ∧ RnAt C H a xs ∧ xs.length ≤ 1000 ∧ RetL xs H Q
abbrev nsLRows : List Str := ["_law_run", "_law_k"]
theorem scLRows : FnScope nsLRows ["_law_run"] (defScope (topS 20)) := ⟨rfl, rfl, rfl, by decide +kernel, rfl, by decide +kernel, by decide +kernel⟩
theorem el_lcRy {σ : L2.St} {H : Hp} {te : TE} {tn : TA} {j : Nat} {vs : List Nat} {n : Nat} {ys : List V} (h : EvA tn σ H [.int (n : Int)]) (hn : n ≤ 40000) (hw : ∀ x, wipe ((wipe σ vs).set j (some x)) vs = wipe σ vs) (hl : ys.length = n)
    (he : ∀ (i : Nat) (y : V) H1, Ex H H1 → ys[i]? = some y → Ev te ((wipe σ vs).set j (some (.int (i : Int)))) H1 y) : EvL (tLc (iRng1 tn) (gName j) tYes te vs) σ H ys := by
  have g := el_lcRm (te := te) (j := j) (vs := vs) (n := (n : Int)) (fun i => ys.getD i .non) h (by omega) hw (fun i H1 e hi => by
    have hy : ys[i]? = some (ys.getD i .non) := by rw [List.getD_eq_getElem?_getD, List.getElem?_eq_getElem (by omega)]; rfl
    exact he i _ H1 e hy)
  rw [Int.toNat_natCast, ← hl] at g
  have e := range_ys (xs := ys) (ys := ys) rfl
  rw [e] at g
  exact g
theorem ok_lrows {f g fl : Addr} {fd fdg fdl : FuncData} (F : Fun K "_law_rows" "_law_rows" (topS 20) f fd) (L : LawT K mg) (IX : IxM K C g) (FG : FnOk P w K mg base CX0 3 g fdg ["self", "at"] (spRunGet C)) (BG : Binds K fdg ["self", "at"] []) (LM : LenM K C fl) (FL : FnOk P w K mg base CX0 1 fl fdl ["self"] (spRunLen C)) (BL : Binds K fdl ["self"] []) :
    FnOk P w K mg base CX0 5 f fd ["_law_run"] (spLRows C) := by
  refine F.ok (k := 4) scLRows (fun vs H Q E h => ?_) (fun cdv A outer s H vs Q E hr h => ?_)
  · obtain ⟨a, xs, rfl, _⟩ := h
    rfl
  · obtain ⟨a, xs, rfl, hrn, hz, q⟩ := h
    refine ⟨_, pss_one (ps_ret (pe_lc (own := [("_law_k", 1)]) (g := gName 1) (tt := tYes) (te := tIxO C (spRunGet C) (fun _ => E0) (tVar 0) (tVar 1)) rfl scLRows.nd (pi_range1 rfl L.range (pa_cons (pe_callB (call_lenO (E := E0) LM FL (hr.mono (by decide)) BL (fun σ => at0 (E := fun _ => E0) σ)) (by rfl) L.len PySem.boot_len (pa_cons (pv 0) pa_nil)) pa_nil)) (blkOk_by (own := [("_law_k", 1)]) (N := nsLRows) (sc := defScope (topS 20)) (by decide +kernel))
        (fun _ _ _ _ _ => pg_name (i := 1) scLRows.nd rfl (Or.inl rfl)) (fun _ _ _ _ _ => pts_nil)
        (fun _ _ _ _ _ => pe_ixO (E := fun _ => E0) (pv 0) (pv 1) IX FG hr BG at0))), ?_⟩
    refine s_retL (el_lcRy (n := xs.length) (ys := xs) (ea_cons (fun H1 e1 Q1 q1 => ?_) ea_nil) (by omega) (fun _ => rfl) rfl (fun i y H1 e1 hy => ev_ixO (ev_var rfl) (ev_var rfl) (hrn.ex e1) hy)) q
    refine ⟨_, rfl, ?_⟩
    have r1 := hrn.ex e1
    have r1' := r1
    obtain ⟨dx, t, k1, k2⟩ := r1'
    exact ⟨a, dx, _, rfl, k1, a, xs, rfl, r1, fun H2 e2 => ⟨xs.length, rfl, by omega, q1 H2 e2⟩⟩
end
end Fs

set_option Elab.async false
set_option linter.all false
set_option maxRecDepth 100000
set_option maxHeartbeats 8000000
namespace Fs
open PySem L2 Evl FsE FsC FsR FsK Mgs
/-! meetings with all that stands in them -/
def RvAt (H : Hp) (v : V) : Vl → Prop
  | .int i => v = .int i
  | .ch c => CcAt H v c
def RpAt (H : Hp) (v : V) (p : Prt) : Prop := ∃ a w, v = .ref a ∧ H a = some (.tup [.int p.a, .int p.b, .int p.c, w]) ∧ RvAt H w p.d
def RmAt (H : Hp) (v : V) (m : Mg) : Prop := ∃ a c t ps, v = .ref a ∧ H a = some (.tup [c, .ref t]) ∧ CcAt H c m.1 ∧ H t = some (.tup ps) ∧ LsA RpAt H ps m.2.items
theorem RvAt.keep {H H' : Hp} (e : ExN H H') {v : V} : ∀ {x : Vl}, RvAt H v x → RvAt H' v x
  | .int _, h => h
  | .ch _, h => CcAt.keep e h
theorem RpAt.keep {H H' : Hp} (e : ExN H H') {v : V} {p : Prt} (h : RpAt H v p) : RpAt H' v p := by
  obtain ⟨a, w, h1, h2, h3⟩ := h
  exact ⟨a, w, h1, e.tup _ _ h2, h3.keep e⟩
theorem RmAt.keep {H H' : Hp} (e : ExN H H') {v : V} {m : Mg} (h : RmAt H v m) : RmAt H' v m := by
  obtain ⟨a, c, t, ps, h1, h2, h3, h4, h5⟩ := h
  exact ⟨a, c, t, ps, h1, e.tup _ _ h2, h3.keep e, e.tup _ _ h4, h5.imp fun _ _ k => k.keep e⟩
theorem RmAt.ex {H H' : Hp} (e : Ex H H') {v : V} {m : Mg} (h : RmAt H v m) : RmAt H' v m := h.keep (ExN.of e)
abbrev RsAt (H : Hp) (vs : List V) (ms : List Mg) : Prop := LsA RmAt H vs ms
theorem RsAt.keep {H H' : Hp} (e : ExN H H') {vs : List V} {ms : List Mg} (h : RsAt H vs ms) : RsAt H' vs ms := LsA.imp (fun _ _ k => RmAt.keep e k) h
theorem RsAt.ex {H H' : Hp} (e : Ex H H') {vs : List V} {ms : List Mg} (h : RsAt H vs ms) : RsAt H' vs ms := RsAt.keep (ExN.of e) h
/-- the machines of a meeting -/
def mach (m : Mg) : List Int := m.2.items.map (·.a)
theorem rp_pt {H : Hp} : ∀ {vs : List V} {ps : List Prt}, LsA RpAt H vs ps → LsA PtAt H vs (ps.map (·.a))
  | [], [], _ => trivial
  | v :: vs, p :: ps, h => by
    obtain ⟨a, w, h1, h2, _⟩ := h.1
    exact ⟨⟨a, _, _, _, h1, h2⟩, rp_pt h.2⟩
  | [], _ :: _, h => h.elim
  | _ :: _, [], h => h.elim
theorem RmAt.mt {H : Hp} {v : V} {m : Mg} (h : RmAt H v m) : MtAt H v (mach m) := by
  obtain ⟨a, c, t, ps, h1, h2, _, h4, h5⟩ := h
  exact ⟨a, t, c, ps, h1, h2, h4, rp_pt h5⟩
theorem rs_rw {H : Hp} : ∀ {vs : List V} {ms : List Mg}, RsAt H vs ms → RwAt H vs (ms.map mach)
  | [], [], _ => trivial
  | _ :: _, _ :: _, h => ⟨h.1.mt, rs_rw h.2⟩
  | [], _ :: _, h => h.elim
  | _ :: _, [], h => h.elim
theorem rs_refs {H : Hp} : ∀ {vs : List V} {ms : List Mg}, RsAt H vs ms → ∀ v ∈ vs, ∃ c, v = V.ref c
  | [], [], _, v, hv => nomatch hv
  | u :: vs, m :: ms, h, v, hv => by
    rcases List.mem_cons.mp hv with rfl | hv
    · obtain ⟨a, _, _, _, e, _⟩ := h.1
      exact ⟨a, e⟩
    · exact rs_refs h.2 v hv
  | [], _ :: _, h, _, _ => h.elim
  | _ :: _, [], h, _, _ => h.elim
def MgsOk (ms : List Mg) : Prop := ms.length ≤ 10 ∧ ∀ m ∈ ms, m.2.items.length ≤ 20
/-- the same, of longer ones -/
def MgsL (ms : List Mg) : Prop := ms.length ≤ 1000 ∧ ∀ m ∈ ms, m.2.items.length ≤ 20
theorem MgsOk.l {ms : List Mg} (h : MgsOk ms) : MgsL ms := ⟨Nat.le_trans h.1 (by decide), h.2⟩
theorem MgsOk.ms {ms : List Mg} (h : MgsOk ms) : MsOk (ms.map mach) := ⟨by rw [List.length_map]; exact h.1, fun x hx => by
  obtain ⟨m, hm, rfl⟩ := List.mem_map.mp hx
  unfold mach
  rw [List.length_map]
  exact h.2 m hm⟩
section
variable {σ : L2.St} {H : Hp} {te ta tb : TE} {K : PySem.W.Frag}
theorem eaw2_nil {α : Type} {R : Hp → V → α → Prop} : EaW tNil σ H (fun vs H' => LsA R H' vs []) := fun H1 e Q q => q [] H1 (Ex.refl H1) trivial
theorem eaw2_cons {α : Type} {R : Hp → V → α → Prop} {tr : TA} {x : α} {xs : List α} (kp : ∀ H H' v, Ex H H' → R H v x → R H' v x) (h : EvS te σ H (fun v H' => R H' v x)) (hr : EaW tr σ H (fun vs H' => LsA R H' vs xs)) : EaW (tCons te tr) σ H (fun vs H' => LsA R H' vs (x :: xs)) := fun H1 e Q q =>
  h H1 e _ fun v H2 e2 hv => hr H2 (e.trans e2) _ fun vs H3 e3 hvs => q (v :: vs) H3 (e2.trans e3) ⟨kp H2 H3 v e3 hv, hvs⟩
/-- a meeting made -/
theorem evs_rm {c : Chan} {ps : List V} {ns : List Prt} (h1 : EvU ta σ H [.int c.a, .int c.b, .int c.c]) (h2 : EvU tb σ H ps) (hp : LsA RpAt H ps ns) : EvS (tTup (tCons ta (tCons tb tNil))) σ H (fun v H' => RmAt H' v (c, ⟨ns⟩)) := fun H1 e Q q =>
  h1 H1 e _ fun p H2 hp2 e2 k2 => h2 H2 (e.trans e2) _ fun t H3 ht3 e3 k3 => ⟨by show 2 ≤ sizeLine; decide, fun u hu => q (.ref u) _ (e2.trans (e3.trans (Ex.new hu))) ⟨u, .ref p, t, ps, rfl, upd_same, ⟨p, rfl, Ex.new hu _ _ (e3 _ _ k2)⟩, Ex.new hu _ _ k3, hp.imp fun _ _ k => k.keep (ExN.of (e.trans (e2.trans (e3.trans (Ex.new hu)))))⟩⟩
end
section
variable {P : Program} {w : World} {K : PySem.W.Frag} {mg : Str → Option Value} {base : Heap} {C : Addr}
theorem evs_cc {σ : L2.St} {H : Hp} {c : Chan} : EvS (tTup (tCons (tC (.int c.a)) (tCons (tC (.int c.b)) (tCons (tC (.int c.c)) tNil)))) σ H (fun v H' => RvAt H' v (.ch c)) := fun H1 e Q q => ⟨by show 3 ≤ sizeLine; decide, fun p hp => q (.ref p) _ (Ex.new hp) ⟨p, rfl, upd_same⟩⟩
def worths : List Vl := [.int 5, .ch ⟨0, 1, 2⟩, .int (-3), .ch ⟨1, 0, 3⟩]
theorem rv_kp : ∀ (x : Vl) (H H' : Hp) (v : V), Ex H H' → RvAt H v x → RvAt H' v x := fun x H H' v e h => RvAt.keep (ExN.of e) h
/-- _law_meetings(row), with all that stands in them -/
def spMeetM : Sp := fun vs H Q _ => ∃ (r : Addr) (row : List Int), vs = [.ref r] ∧ H r = some (.lst (row.map V.int)) ∧ row.length = 20 ∧ RowOk row ∧ ∀ p H2 xs ms, H p = none → Ex H H2 → H2 p = some (.lst xs) → RsAt H2 xs ms → MgsOk ms → Q (.ref p) H2
theorem ok_meeM {f : Addr} {fd : FuncData} (F : Fun K "_law_meetings" "_law_meetings" (topS 19) f fd) (L : LawT K mg) (htup : mg "tuple" = none) : FnOk P w K mg base CX0 1 f fd ["_law_row_here"] spMeetM := by
  refine F.ok scMee (fun vs H Q E h => ?_) (fun cdv A outer s H vs Q E hr h => ?_)
  · obtain ⟨r, row, rfl, _⟩ := h
    rfl
  · obtain ⟨r, row, rfl, hR, hl, hok, q⟩ := h
    refine ⟨_, pss_cons (ps_set (i := 1) scMee.nd rfl (Or.inl rfl) (pe_lst pa_nil))
      (pss_cons (ps_for PassesOwn.never rfl (pi_range1 rfl L.range (pa_cons (pe_op op_mod (pe_op op_fdiv (pe_ix ix_list (pv 0) pe_int (fun _ _ => rfl)) pe_int) pe_int) pa_nil)) (pg_name (i := 2) scMee.nd rfl (Or.inl rfl))
        (pss_cons (ps_set (i := 3) scMee.nd rfl (Or.inl rfl) (pe_op op_add pe_int (pe_op op_mul pe_int (pv 2))))
        (pss_cons (ps_set (i := 4) scMee.nd rfl (Or.inl rfl) (pe_lst pa_nil))
        (pss_cons (ps_set (i := 5) scMee.nd rfl (Or.inl rfl) (pe_ix ix_list (pe_lst (pa_cons (pe_lst (pa_cons pe_int (pa_cons pe_int pa_nil))) (pa_cons (pe_lst (pa_cons pe_int (pa_cons pe_int pa_nil))) (pa_cons (pe_lst (pa_cons pe_int (pa_cons pe_int pa_nil))) (pa_cons (pe_lst (pa_cons pe_int (pa_cons pe_int pa_nil))) (pa_cons (pe_lst (pa_cons pe_int pa_nil))
            (pa_cons (pe_lst (pa_cons pe_int (pa_cons pe_int (pa_cons pe_int pa_nil)))) (pa_cons (pe_lst pa_nil) (pa_cons (pe_lst (pa_cons pe_int (pa_cons pe_int pa_nil))) (pa_cons (pe_lst (pa_cons pe_int (pa_cons pe_int pa_nil))) (pa_cons (pe_lst (pa_cons pe_int pa_nil)) pa_nil)))))))))))
            (pe_op op_mod (pe_callTy call_int1 (by rfl) L.int (by decide +kernel) (pa_cons (pe_ix ix_list (pv 0) (pv 3) (fun _ _ => rfl)) pa_nil)) pe_int) (fun _ _ => rfl)))
        (pss_cons (ps_for PassesOwn.never rfl (pi_list (pv 5)) (pg_name (i := 6) scMee.nd rfl (Or.inl rfl))
          (pss_cons (ps_set (i := 7) scMee.nd rfl (Or.inl rfl) (pe_ix ix_list (pe_lst (pa_cons pe_int (pa_cons (pe_tup (pa_cons pe_int (pa_cons pe_int (pa_cons pe_int pa_nil)))) (pa_cons (pe_un un_neg pe_int) (pa_cons (pe_tup (pa_cons pe_int (pa_cons pe_int (pa_cons pe_int pa_nil)))) pa_nil)))))
            (pe_op op_mod (pe_op op_fdiv (pe_ix ix_list (pv 0) (pe_op op_add (pv 3) pe_int) (fun _ _ => rfl)) pe_int) pe_int) (fun _ _ => rfl)))
          (pss_one (ps_expr (pe_bm PySem.F.plainAttrs_list PySem.F.slot_list_append PySem.F.type_list_append mt_append (pv 4) (pa_cons (pe_tup (pa_cons (pv 6) (pa_cons (pe_op op_mod (pe_op op_fdiv (pe_ix ix_list (pv 0) (pe_op op_add (pv 3) pe_int) (fun _ _ => rfl)) pe_int) pe_int) (pa_cons (pe_op op_mod (pe_op op_fdiv (pe_ix ix_list (pv 0) (pv 3) (fun _ _ => rfl)) pe_int) pe_int) (pa_cons (pv 7) pa_nil))))) pa_nil))))))
        (pss_one (ps_expr (pe_bm PySem.F.plainAttrs_list PySem.F.slot_list_append PySem.F.type_list_append mt_append (pv 1) (pa_cons (pe_tup (pa_cons (pe_tup (pa_cons (pe_op op_mod (pe_op op_fdiv (pe_ix ix_list (pv 0) (pv 3) (fun _ _ => rfl)) pe_int) pe_int) (pa_cons (pe_op op_mod (pe_op op_fdiv (pe_ix ix_list (pv 0) (pv 3) (fun _ _ => rfl)) pe_int) pe_int) (pa_cons (pe_callB call_len_seq (by rfl) L.len PySem.boot_len (pa_cons (pv 4) pa_nil)) pa_nil))))
            (pa_cons (pe_callTy call_tuple_of (by rfl) htup (by decide +kernel) (pa_cons (pv 4) pa_nil)) pa_nil))) pa_nil)))))))))
      (pss_cons (ps_if (PW.pt (pw_and (pt_cmpR (op_neNil hr.units0) (pv 1) (pe_lst pa_nil) (nomark _)) (pw_and1 (pt_cmpR op_eq (pe_op op_mod (pe_callTy call_int1 (by rfl) L.int (by decide +kernel) (pa_cons (pe_ix ix_list (pv 0) pe_int (fun _ _ => rfl)) pa_nil)) pe_int) pe_int (nomark _)))))
        (pss_one (ps_expr (pe_bm PySem.F.plainAttrs_list PySem.F.slot_list_append PySem.F.type_list_append mt_append (pv 1) (pa_cons (pe_ix ix_list (pv 1) (pe_op op_mod (pe_op op_fdiv (pe_ix ix_list (pv 0) pe_int (fun _ _ => rfl)) pe_int) (pe_callB call_len_seq (by rfl) L.len PySem.boot_len (pa_cons (pv 1) pa_nil))) (fun _ _ => rfl)) pa_nil)))) pss_nil)
      (pss_one (ps_ret (pv 1))))), ?_⟩
    obtain ⟨v0, av0, b0, b1⟩ := row_get0 hl hok (i := 0) (by decide)
    have av0 : atI (row.map V.int) 0 = some (.int v0) := av0
    have n0 := Int.emod_nonneg (v0 / 4) (b := 10) (by decide)
    have n1 := Int.emod_lt_of_pos (v0 / 4) (b := 10) (by decide)
    have frow : ∀ {σ : L2.St} {H9 : Hp} {tb : TE} {i : Nat} {v : Int}, σ[0]? = some (some (.ref r)) → Ex H H9 → atI (row.map V.int) (i : Int) = some (.int v) → Ev tb σ H9 (.int (i : Int)) → Ev (tOp (rIxL K) (tVar 0) tb) σ H9 (.int v) := fun hσ e ha hb => ev_op (ev_var hσ) hb (rv_ixL (sq_of (e _ _ hR)) ha)
    refine q_asgL (xs := []) (el_lst ea_nil (by decide)) (fun l H1 hl1 e1 h1 => ?_)
    refine q_forR1 (n := v0 / 4 % 10) (ea_cons (ev_op (x := .int (v0 / 4)) (ev_op (x := .int v0) (y := .int 4) (ev_op (y := .int 0) (ev_var rfl) ev_c (rv_ixL (sq_of (e1 _ _ hR)) av0)) ev_c (rv_I ⟨by decide, by decide⟩)) ev_c (rv_I (by decide))) ea_nil) (by omega)
      (fun k σ' H' => ∃ (v2 v3 v4 v5 v6 v7 : Option V) (xs : List V) (mss : List Mg), σ' = [some (.ref r), some (.ref l), v2, v3, v4, v5, v6, v7] ∧ Ex H H' ∧ H' l = some (.lst xs) ∧ RsAt H' xs mss ∧ mss.length = k ∧ ∀ ms ∈ mss, ms.2.items.length ≤ 3)
      (fun H2 e2 => ⟨_, _, _, _, _, _, [], [], rfl, e1.trans e2, e2 _ _ h1, trivial, rfl, fun ms hm => nomatch hm⟩) (fun k σ' H' hk ⟨v2, v3, v4, v5, v6, v7, xs, mss, hσ, he, hx, hw, hc, hs3⟩ => ?_) (fun σ' H' ⟨v2, v3, v4, v5, v6, v7, xs, mss, hσ, he, hx, hw, hc, hs3⟩ => ?_)
    · subst hσ
      have hk9 : k ≤ 8 := by omega
      obtain ⟨va, ava, a0, a1⟩ := row_get0 hl hok (i := 1 + 2 * k) (by omega)
      obtain ⟨vb, avb, c0, c1⟩ := row_get0 hl hok (i := 1 + 2 * k + 1) (by omega)
      refine q_asg (v := .int ((1 + 2 * k : Nat) : Int)) (ev_is (ev_op (x := .int 1) ev_c (ev_op (x := .int 2) (y := .int (k : Int)) ev_c (ev_var rfl) (rv_I (C := CMul) (.inl ⟨by decide, by decide⟩))) rv_I0) (congrArg V.int (by omega))) (fun H2 e2 => ?_)
      refine q_asgL (xs := []) (el_lst ea_nil (by decide)) (fun lp H3 hl3 e3 h3 => ?_)
      have x2 := he.trans e2
      have x3 := x2.trans e3
      have eI : ∀ {a b : Int} {σ : L2.St} {H9 : Hp}, EvL (tLst (tCons (tC (.int a)) (tCons (tC (.int b)) tNil))) σ H9 (([a, b] : List Int).map V.int) := fun {a b σ H9} => el_lst (ea_cons ev_c (ea_cons ev_c ea_nil)) (by show 2 ≤ 100000; decide)
      have eI1 : ∀ {a : Int} {σ : L2.St} {H9 : Hp}, EvL (tLst (tCons (tC (.int a)) tNil)) σ H9 (([a] : List Int).map V.int) := fun {a σ H9} => el_lst (ea_cons ev_c ea_nil) (by show 1 ≤ 100000; decide)
      have eI3 : ∀ {a b c : Int} {σ : L2.St} {H9 : Hp}, EvL (tLst (tCons (tC (.int a)) (tCons (tC (.int b)) (tCons (tC (.int c)) tNil)))) σ H9 (([a, b, c] : List Int).map V.int) := fun {a b c σ H9} => el_lst (ea_cons ev_c (ea_cons ev_c (ea_cons ev_c ea_nil))) (by show 3 ≤ 100000; decide)
      have eI0 : ∀ {σ : L2.St} {H9 : Hp}, EvL (tLst tNil) σ H9 (([] : List Int).map V.int) := fun {σ H9} => el_lst ea_nil (by show 0 ≤ 100000; decide)
      have r3 : Ex H3 H3 := Ex.refl H3
      refine q_asgS (evs_ix (K := K) (i := va % 10) (Pv := fun vs H' => LsA (NwI H3) H' vs machT) (eaw_cons r3 eI (eaw_cons r3 eI (eaw_cons r3 eI (eaw_cons r3 eI (eaw_cons r3 eI1 (eaw_cons r3 eI3 (eaw_cons r3 eI0 (eaw_cons r3 eI (eaw_cons r3 eI (eaw_cons r3 eI1 eaw_nil))))))))))
        (fun vs H9 hv => by have := LsA.length hv; have h10 : machT.length = 10 := rfl; have := Int.emod_nonneg va (b := 10) (by decide); have := Int.emod_lt_of_pos va (b := 10) (by decide); omega)
        (fun H9 e9 => ev_op (x := .int va) (ev_cb (ea_cons (frow rfl (x3.trans e9) ava (ev_var rfl)) ea_nil) (rc_int (K := K))) ev_c (rv_I (by decide)))) (fun v H4 e4 ⟨vs, H0, j, f0, hv, hj, _⟩ => ?_)
      obtain ⟨ns, hns, lm, rfl, hlm, hlm2⟩ := lsa_get hv hj
      have hlm4 := f0 _ _ hlm2
      have hn3 := mach_len ns hns
      have nlm : lm ≠ lp := fun z => by
        subst z
        rw [h3] at hlm
        cases hlm
      have nl : l ≠ lp := fun z => by
        subst z
        rw [e2 _ _ hx] at hl3
        cases hl3
      refine q_forLn (a := lm) (xs := ns.map V.int) (ev_var rfl) (sq_of hlm4) (fun i σ' H' => ∃ (v6 v7 : Option V) (ps : List V), i ≤ ns.length ∧ σ' = [some (.ref r), some (.ref l), some (.int (k : Int)), some (.int ((1 + 2 * k : Nat) : Int)), some (.ref lp), some (.ref lm), v6, v7] ∧ Ex H2 H' ∧ H' lm = some (.lst (ns.map V.int)) ∧ H' lp = some (.lst ps) ∧ ∃ ds : List Prt, ds.length = i ∧ LsA RpAt H' ps ds)
        (fun H5 e5 => ⟨_, _, [], Nat.zero_le _, rfl, e3.trans (e4.trans e5), e5 _ _ hlm4, (e4.trans e5) _ _ h3, [], rfl, trivial⟩) (fun i σ' H' _ ⟨_, _, _, _, _, _, hm, _⟩ => sq_of hm) (fun i x σ' H' hxi ⟨u6, u7, ps, hi, hσ, hE, hm, hpl, ds, hds, hpp⟩ => ?_) (fun σ' H' ⟨u6, u7, ps, hi, hσ, hE, hm, hpl, ds, hds, hpp⟩ => ?_)
      · subst hσ
        obtain ⟨m, hmi, rfl⟩ : ∃ m, ns[i]? = some m ∧ x = V.int m := by
          rw [List.getElem?_map] at hxi
          cases e : ns[i]? with
          | none => rw [e] at hxi; cases hxi
          | some m => rw [e] at hxi; exact ⟨m, rfl, (Option.some.inj hxi).symm⟩
        have hilt := (List.getElem?_eq_some_iff.mp hmi).1
        have eb : ∀ {σ : L2.St} {H9 : Hp}, σ[0]? = some (some (.ref r)) → σ[3]? = some (some (.int ((1 + 2 * k : Nat) : Int))) → Ex H H9 → Ev (tOp (rIxL K) (tVar 0) (tOp (rI0 fun i j => .int (i + j)) (tVar 3) (tC (.int 1)))) σ H9 (.int vb) := fun hσ h3 e => frow hσ e avb (ev_is (ev_op (ev_var h3) ev_c rv_I0) (congrArg V.int (by omega)))
        refine q_asgS (evs_ix (K := K) (i := vb / 6 % 4) (Pv := fun vs H' => LsA RvAt H' vs worths) (eaw2_cons (rv_kp _) (fun H9 e9 Q9 q9 => q9 _ H9 (Ex.refl H9) rfl) (eaw2_cons (rv_kp _) (evs_cc (c := ⟨0, 1, 2⟩)) (eaw2_cons (rv_kp _) (fun H9 e9 Q9 q9 => ⟨3, rfl, q9 _ H9 (Ex.refl H9) rfl⟩) (eaw2_cons (rv_kp _) (evs_cc (c := ⟨1, 0, 3⟩)) eaw2_nil))))
          (fun vs H9 hv => by have := LsA.length hv; have h4 : worths.length = 4 := rfl; have := Int.emod_nonneg (vb / 6) (b := 4) (by decide); have := Int.emod_lt_of_pos (vb / 6) (b := 4) (by decide); omega)
          (fun H9 e9 => ev_op (x := .int (vb / 6)) (ev_op (x := .int vb) (y := .int 6) (eb rfl rfl (x2.trans (hE.trans e9))) ev_c (rv_I ⟨by decide, by decide⟩)) ev_c (rv_I (by decide)))) (fun wv H5 e5 ⟨ws, H5', j5, f5, hws, hj5, _⟩ => ?_)
        obtain ⟨wx, _, hwx⟩ := lsa_get hws hj5
        have hwx5 := RvAt.keep (ExN.of f5) hwx
        have y5 := x2.trans (hE.trans e5)
        refine s_appU (xs := ps) (ys := [.int m, .int (vb / 24 % 3), .int (va / 10 % 2), wv]) (e5 _ _ hpl) (ev_var rfl) (eu_tup (ea_cons (ev_var rfl) (ea_cons (ev_op (x := .int (vb / 24)) (ev_op (x := .int vb) (y := .int 24) (eb rfl rfl y5) ev_c (rv_I ⟨by decide, by decide⟩)) ev_c (rv_I (by decide))) (ea_cons (ev_op (x := .int (va / 10)) (ev_op (x := .int va) (y := .int 10) (frow rfl y5 ava (ev_var rfl)) ev_c (rv_I ⟨by decide, by decide⟩)) ev_c (rv_I (by decide))) (ea_cons (ev_var rfl) ea_nil)))) (by show 4 ≤ 100000; decide)) (by have := LsA.length hpp; omega) (fun p H6 hp e6 h6 => ?_)
        have hpl6 := (e5.trans e6) _ _ hpl
        refine ⟨_, _, ps ++ [.ref p], by omega, rfl, Ex.mut (hE.trans (e5.trans e6)) hl3, by rw [upd_ne nlm]; exact (e5.trans e6) _ _ hm, upd_same, ds ++ [⟨m, vb / 24 % 3, va / 10 % 2, wx⟩], by rw [List.length_append, hds]; rfl, ?_⟩
        exact LsA.snoc (hpp.imp fun _ _ z => z.keep ((ExN.of (e5.trans e6)).trans (ExN.upd hpl6))) ⟨p, wv, rfl, (ExN.upd hpl6).tup _ _ h6, hwx5.keep ((ExN.of e6).trans (ExN.upd hpl6))⟩
      · subst hσ
        rw [List.length_map] at hds
        have hx' := hE _ _ (e2 _ _ hx)
        have y := x2.trans hE
        refine s_appS (xs := xs) hx' (ev_var rfl) (evs_rm (c := ⟨va / 20 % 2, va / 40 % 2, (ps.length : Int)⟩) (ps := ps) (ns := ds) (eu_tup (ea_cons (ev_op (x := .int (va / 20)) (ev_op (x := .int va) (y := .int 20) (frow rfl y ava (ev_var rfl)) ev_c (rv_I ⟨by decide, by decide⟩)) ev_c (rv_I (by decide))) (ea_cons (ev_op (x := .int (va / 40)) (ev_op (x := .int va) (y := .int 40) (frow rfl y ava (ev_var rfl)) ev_c (rv_I ⟨by decide, by decide⟩)) ev_c (rv_I (by decide))) (ea_cons (ev_len (K := K) (ev_var rfl) (sq_of hpl)) ea_nil))) (by show 3 ≤ 100000; decide)) (eu_tupL (ev_var rfl) (sq_of hpl)) hpp) (by have := LsA.length hw; omega) (fun mv H7 e7 hmt => ?_)
        have hx7 := e7 _ _ hx'
        refine ⟨_, _, _, _, _, _, xs ++ [mv], mss ++ [(⟨va / 20 % 2, va / 40 % 2, (ps.length : Int)⟩, ⟨ds⟩)], rfl, Ex.mut (y.trans e7) hl1, upd_same, ?_, by rw [List.length_append, hc]; rfl, fun ms hm => ?_⟩
        · exact LsA.snoc (LsA.imp (fun _ _ z => RmAt.keep ((ExN.of ((e2.trans hE).trans e7)).trans (ExN.upd hx7)) z) hw) (hmt.keep (ExN.upd hx7))
        · rcases List.mem_append.mp hm with hm | hm
          · exact hs3 ms hm
          · rw [List.mem_singleton.mp hm]
            show ds.length ≤ 3
            omega
    · subst hσ
      have hcn : mss.length ≤ 9 := by omega
      have hlx := LsA.length hw
      refine q_when (b := (!xs.isEmpty) && decide (V.int (v0 % 4) = V.int 0)) (et_and (et_test (ev_opL (ev_var rfl) (el_lst ea_nil (by decide)) (fun p H9 hp e9 => rv_neNil (sq_of (e9 _ _ hx)) (sq_of hp)))) (fun _ => et_test (ev_op (x := .int (v0 % 4)) (ev_op (x := .int v0) (ev_cb (ea_cons (ev_op (y := .int 0) (ev_var rfl) ev_c (rv_ixL (sq_of (he _ _ hR)) av0)) ea_nil) (rc_int (K := K))) ev_c (rv_I (by decide))) ev_c (rv_eq rfl)))) (fun hb H3 e3 => ?_) (fun hb H3 e3 => ?_)
      · have hne : 0 < xs.length := by
          rw [Bool.and_eq_true] at hb
          cases xs with
          | nil => exact absurd hb.1 (by decide)
          | cons a b => simp
        have hpos : (0 : Int) < (xs.length : Int) := by omega
        obtain ⟨j, x, hj, aj⟩ := at_of0 (xs := xs) (i := v0 / 40 % (xs.length : Int)) (Int.emod_nonneg _ (by omega)) (Int.emod_lt_of_pos _ hpos)
        obtain ⟨ms, hms, hmx⟩ := lsa_get hw hj
        have hx3 := e3 _ _ hx
        refine s_app (xs := xs) (v := x) hx3 (ev_var rfl) (ev_op (y := .int (v0 / 40 % (xs.length : Int))) (ev_var rfl) (ev_op (x := .int (v0 / 40)) (y := .int (xs.length : Int)) (ev_op (x := .int v0) (y := .int 40) (ev_op (y := .int 0) (ev_var rfl) ev_c (rv_ixL (sq_of ((he.trans e3) _ _ hR)) av0)) ev_c (rv_I ⟨by decide, by decide⟩)) (ev_len (K := K) (ev_var rfl) (sq_of hx3)) (rv_I hpos)) (rv_ixL (sq_of hx3) aj)) (by omega) (fun H4 e4 => ?_)
        have hx4 := e4 _ _ hx3
        have kp := (ExN.of (e3.trans e4)).trans (ExN.upd (ys := xs ++ [x]) hx4)
        refine s_ret (ev_var rfl) (fun H5 e5 => q l H5 (xs ++ [x]) (mss ++ [ms]) (fresh_back (Ex.refl H) hl1) ((Ex.mut ((he.trans e3).trans e4) hl1).trans e5) (e5 _ _ upd_same) (RsAt.ex e5 (LsA.snoc (LsA.imp (fun _ _ z => RmAt.keep kp z) hw) (hmx.keep kp))) ⟨by rw [List.length_append]; show _ + 1 ≤ 10; omega, fun m hm => ?_⟩)
        rcases List.mem_append.mp hm with hm | hm
        · have := hs3 m hm
          omega
        · rw [List.mem_singleton.mp hm]
          have := hs3 ms hms
          omega
      · exact s_ret (ev_var rfl) (fun H5 e5 => q l H5 xs mss hl1 ((he.trans e3).trans e5) ((e3.trans e5) _ _ hx) (RsAt.ex (e3.trans e5) hw) ⟨by omega, fun m hm => by have := hs3 m hm; omega⟩)
end
end Fs

set_option Elab.async false
set_option linter.all false
set_option maxRecDepth 100000
set_option maxHeartbeats 8000000
namespace Fs
open PySem L2 Evl FsE FsC FsR FsK Mgs
/-! lists made of new things; meetings in the form in which they are sorted; run == run -/
/-- a new list, with a word of its items -/
def EvLW (te : TE) (σ : L2.St) (H : Hp) (Pv : List V → Hp → Prop) : Prop := ∀ H1, Ex H H1 → ∀ Q : VK, (∀ p H2 ys, H1 p = none → Ex H1 H2 → H2 p = some (.lst ys) → Pv ys H2 → Q (.ref p) H2) → te σ H1 Q
def CwW {α : Type} (R : Hp → V → α → Prop) (H1 : Hp) (ns : List α) (Dl : Addr) (i : Nat) (H' : Hp) : Prop := H1 Dl = none ∧ Ex H1 H' ∧ ∃ ys, H' Dl = some (.lst ys) ∧ LsA R H' ys (ns.take i)
section
variable {α : Type} {R : Hp → V → α → Prop} {σ : L2.St} {H : Hp} {te tl ta tb tc td : TE} {K : PySem.W.Frag}
theorem cwW_turn {H1 H' : Hp} {ns : List α} {Dl : Addr} {i : Nat} {σ2 : L2.St} {n : α} (kp : ∀ H H' v x, ExN H H' → R H v x → R H' v x) (p : CwW R H1 ns Dl i H') (hi : i < 50000) (hn : ns[i]? = some n) (he : EvS te σ2 H1 (fun v H2 => R H2 v n)) :
    tYes σ2 H' fun b H3 => if b = true then te σ2 H3 fun y H4 => ∃ acc, H4 Dl = some (.lst acc) ∧ acc.length < sizeLine ∧ CwW R H1 ns Dl (i + 1) (upd H4 Dl (.lst (acc ++ [y]))) else CwW R H1 ns Dl (i + 1) H3 := by
  obtain ⟨p1, p2, ys, p3, p4⟩ := p
  show te σ2 H' fun y H4 => ∃ acc, H4 Dl = some (.lst acc) ∧ acc.length < sizeLine ∧ CwW R H1 ns Dl (i + 1) (upd H4 Dl (.lst (acc ++ [y])))
  refine he H' p2 _ fun y H4 e4 hy => ?_
  have h4 := e4 _ _ p3
  have hl := p4.length
  rw [List.length_take] at hl
  refine ⟨ys, h4, sz_lt (by omega), p1, Ex.mut (p2.trans e4) p1, ys ++ [y], upd_same, ?_⟩
  rw [List.take_add_one, hn]
  exact LsA.snoc (p4.imp fun _ _ z => kp _ _ _ _ ((ExN.of e4).trans (ExN.upd h4)) z) (kp _ _ _ _ (ExN.upd h4) hy)
/-- [e for a, b, c, d in (a tuple)], e new -/
theorem elw_T4 {a : Addr} {xs : List V} {i1 i2 i3 i4 : Nat} {vs : List Nat} (ns : List α) (kp : ∀ H H' v x, ExN H H' → R H v x → R H' v x) (h : Ev tl σ H (.ref a)) (hx : SqT K H a xs) (hz : xs.length ≤ 40000) (hw : ∀ x1 x2 x3 x4, wipe (((((wipe σ vs).set i1 (some x1)).set i2 (some x2)).set i3 (some x3)).set i4 (some x4)) vs = wipe σ vs) (hl : ns.length = xs.length)
    (he : ∀ (i : Nat) (x : V) (n : α) H1, Ex H H1 → xs[i]? = some x → ns[i]? = some n → ∃ (q : Addr) (x1 x2 x3 x4 : V), x = .ref q ∧ H1 q = some (.tup [x1, x2, x3, x4]) ∧ EvS te (((((wipe σ vs).set i1 (some x1)).set i2 (some x2)).set i3 (some x3)).set i4 (some x4)) H1 (fun v H2 => R H2 v n)) :
    EvLW (tLc (iTup K tl) (gTup K 4 (gCons (gName i1) (gCons (gName i2) (gCons (gName i3) (gCons (gName i4) gNil))))) tYes te vs) σ H (fun ys H' => LsA R H' ys ns) := fun H0 e Q q => h H0 e _ fun H1 e1 => ⟨a, rfl, ⟨xs, ex_t (e.trans e1) hx⟩, fun Dl hD =>
  lc_tup (xs := xs) (CwW R H1 ns Dl) ⟨hD, Ex.new hD, [], upd_same, by rw [List.take_zero]; trivial⟩ (fun i H' _ p => ex_t ((e.trans e1).trans p.2.1) hx) (fun i x H' hi p => by
    have hi1 := (List.getElem?_eq_some_iff.mp hi).1
    have hn : ns[i]? = some ns[i] := List.getElem?_eq_getElem (by omega)
    obtain ⟨r, x1, x2, x3, x4, rfl, hr, ht⟩ := he i x _ H1 (e.trans e1) hi hn
    exact ⟨r, _, rfl, st_of (p.2.1 _ _ hr), rfl, _, _, rfl, _, _, rfl, _, _, rfl, _, _, rfl, rfl, hw x1 x2 x3 x4, cwW_turn kp p (by omega) hn ht⟩)
    (fun H' p => by
      obtain ⟨p1, p2, ys, p3, p4⟩ := p
      rw [List.take_of_length_le (by omega)] at p4
      exact q Dl H' ys (fresh_back e1 p1) (e1.trans p2) p3 p4)⟩
/-- [e for x in (a tuple)], e new -/
theorem elw_T {a : Addr} {xs : List V} {j : Nat} {vs : List Nat} (ns : List α) (kp : ∀ H H' v x, ExN H H' → R H v x → R H' v x) (h : Ev tl σ H (.ref a)) (hx : SqT K H a xs) (hz : xs.length ≤ 40000) (hw : ∀ x, wipe ((wipe σ vs).set j (some x)) vs = wipe σ vs) (hl : ns.length = xs.length)
    (he : ∀ (i : Nat) (x : V) (n : α) H1, Ex H H1 → xs[i]? = some x → ns[i]? = some n → EvS te ((wipe σ vs).set j (some x)) H1 (fun v H2 => R H2 v n)) :
    EvLW (tLc (iTup K tl) (gName j) tYes te vs) σ H (fun ys H' => LsA R H' ys ns) := fun H0 e Q q => h H0 e _ fun H1 e1 => ⟨a, rfl, ⟨xs, ex_t (e.trans e1) hx⟩, fun Dl hD =>
  lc_tup (xs := xs) (CwW R H1 ns Dl) ⟨hD, Ex.new hD, [], upd_same, by rw [List.take_zero]; trivial⟩ (fun i H' _ p => ex_t ((e.trans e1).trans p.2.1) hx) (fun i x H' hi p => by
    have hi1 := (List.getElem?_eq_some_iff.mp hi).1
    have hn : ns[i]? = some ns[i] := List.getElem?_eq_getElem (by omega)
    exact ⟨hw x, cwW_turn kp p (by omega) hn (he i x _ H1 (e.trans e1) hi hn)⟩)
    (fun H' p => by
      obtain ⟨p1, p2, ys, p3, p4⟩ := p
      rw [List.take_of_length_le (by omega)] at p4
      exact q Dl H' ys (fresh_back e1 p1) (e1.trans p2) p3 p4)⟩
/-- x = (a new list) -/
theorem q_asgLW {i : Nat} {tz : TS} {D : Ends} {Pv : List V → Hp → Prop} (h : EvLW te σ H Pv) (k : ∀ p H1 ys, H p = none → Ex H H1 → H1 p = some (.lst ys) → Pv ys H1 → tz D (σ.set i (some (.ref p))) H1) : tSeq (tAsg te (gName i)) tz D σ H := h H (Ex.refl H) _ fun p H1 ys hp e h1 hk => k p H1 ys hp e h1 hk
/-- return f(a new list) -/
theorem s_retCB {r : List V → Hp → VK → Prop} {D : Ends} {Pv : List V → Hp → Prop} (h : EvLW te σ H Pv) (k : ∀ p H1 ys, H p = none → Ex H H1 → H1 p = some (.lst ys) → Pv ys H1 → r [.ref p] H1 D.rt) : tRet (tCB r (tCons te tNil)) D σ H := h H (Ex.refl H) _ k
theorem evs_tup4 {x1 x2 x3 : V} {ys : List V} (h1 : Ev ta σ H x1) (h2 : Ev tb σ H x2) (h3 : Ev tc σ H x3) (h4 : EvU td σ H ys) : EvS (tTup (tCons ta (tCons tb (tCons tc (tCons td tNil))))) σ H (fun v H' => ∃ a u, v = .ref a ∧ H' a = some (.tup [x1, x2, x3, .ref u]) ∧ H' u = some (.tup ys)) := fun H1 e Q q =>
  h1 H1 e _ fun H2 e2 => h2 H2 (e.trans e2) _ fun H3 e3 => h3 H3 ((e.trans e2).trans e3) _ fun H4 e4 => h4 H4 (((e.trans e2).trans e3).trans e4) _ fun u H5 hu e5 k5 => ⟨by show 4 ≤ sizeLine; decide, fun a ha => q (.ref a) _ (((e2.trans e3).trans e4).trans (e5.trans (Ex.new ha))) ⟨a, u, rfl, upd_same, Ex.new ha _ _ k5⟩⟩
theorem evs_tup2 {x1 : V} {ys : List V} (h1 : Ev ta σ H x1) (h4 : EvU td σ H ys) : EvS (tTup (tCons ta (tCons td tNil))) σ H (fun v H' => ∃ a u, v = .ref a ∧ H' a = some (.tup [x1, .ref u]) ∧ H' u = some (.tup ys)) := fun H1 e Q q =>
  h1 H1 e _ fun H2 e2 => h4 H2 (e.trans e2) _ fun u H5 hu e5 k5 => ⟨by show 2 ≤ sizeLine; decide, fun a ha => q (.ref a) _ (e2.trans (e5.trans (Ex.new ha))) ⟨a, u, rfl, upd_same, Ex.new ha _ _ k5⟩⟩
end
/-- xs == ys, sorted meetings -/
def rEqM (K : PySem.W.Frag) : R2 := fun x y H Q => ∃ (a b : Addr) (xs ys : List V) (ms ns : List Mg), x = .ref a ∧ y = .ref b ∧ SqL K H a xs ∧ SqL K H b ys ∧ LsA MgAt H xs ms ∧ LsA MgAt H ys ns ∧ Q (.bl (decide (ms = ns))) H
theorem op_eqM {X : Cx} (hu : X.A.units + 64 < cLine) : OpR X (compareOp .Eq) (rEqM X.K) := by
  intro pins s σ H x y v u Q I rx ry h
  obtain ⟨a, b, xs, ys, ms, ns, rfl, rfl, h1, h2, h3, h4, q⟩ := h
  have r1 : PySem.W.Holds s.heap v ms := Dp.reads I _ (.ref a) v (.lst h1 (mgs_dp h3)) rx
  have r2 : PySem.W.Holds s.heap u ns := Dp.reads I _ (.ref b) u (.lst h2 (mgs_dp h4)) ry
  refine PySem.W.eq_datum r1 r2 (by show X.A.units + 6 < cLine; omega) ?_
  exact ⟨.bl (decide (ms = ns)), H, I, rfl, q⟩
section
variable {P : Program} {w : World} {K : PySem.W.Frag} {mg : Str → Option Value} {base : Heap} {C : Addr}
/-- comparable(meeting) -/
def spCmpb : Sp := fun vs H Q _ => ∃ (v : V) (m : Mg), vs = [v] ∧ RmAt H v m ∧ m.2.items.length ≤ 20 ∧ ∀ y H2, Ex H H2 → MgAt H2 y m → Q y H2
abbrev nsCmpb : List Str := ["meeting", "channel", "parts", "told", "machine", "turn", "place", "value"]
theorem scCmpb : FnScope nsCmpb ["meeting"] (defScope (topS 14)) := ⟨rfl, rfl, rfl, by decide +kernel, rfl, by decide +kernel, by decide +kernel⟩
theorem pmat_kp : ∀ H H' v x, ExN H H' → PmAt H v x → PmAt H' v x := fun _ _ _ _ e h => h.keep e
theorem mgat_kp : ∀ H H' v x, ExN H H' → MgAt H v x → MgAt H' v x := fun _ _ _ _ e h => h.keep e
theorem rp_at {H : Hp} {vs : List V} {ps : List Prt} {i : Nat} {v : V} {p : Prt} (h : LsA RpAt H vs ps) (hv : vs[i]? = some v) (hp : ps[i]? = some p) : RpAt H v p := by
  obtain ⟨x, h1, h2⟩ := LsA.get h hv
  rw [hp] at h1
  cases h1
  exact h2
theorem ok_cmpb {f : Addr} {fd : FuncData} (F : Fun K "comparable" "comparable" (topS 14) f fd) (T : RunT K mg) : FnOk P w K mg base CX0 1 f fd ["meeting"] spCmpb := by
  refine F.ok scCmpb (fun vs H Q E h => ?_) (fun cdv A outer s H vs Q E hr h => ?_)
  · obtain ⟨v, m, rfl, _⟩ := h
    rfl
  · obtain ⟨v, m, rfl, hm, hz, q⟩ := h
    obtain ⟨a, c, t, ps, rfl, h1, h2, h3, h4⟩ := hm
    refine ⟨_, pss_cons (ps_asg (pv 0) (pg_tup rfl (pgs_cons (pg_name (i := 1) scCmpb.nd rfl (.inl rfl)) (pgs_cons (pg_name (i := 2) scCmpb.nd rfl (.inl rfl)) pgs_nil))))
      (pss_cons (ps_setLc (i := 3) (own := [("machine", 4), ("turn", 5), ("place", 6), ("value", 7)]) (g := gTup K 4 (gCons (gName 4) (gCons (gName 5) (gCons (gName 6) (gCons (gName 7) gNil))))) (tt := tYes)
          (te := tTup (tCons (tVar 4) (tCons (tVar 5) (tCons (tVar 6) (tCons (tTup (tCons (tCB (rIsi K) (tCons (tVar 7) (tCons (tC (.ty "tuple")) tNil))) (tCons (tVar 7) tNil))) tNil))))) rfl scCmpb.nd rfl rfl (sw_true rfl rfl rfl (by decide +kernel)) (pi_tup (pv 2)) (blkOk_by (own := [("machine", 4), ("turn", 5), ("place", 6), ("value", 7)]) (N := nsCmpb) (sc := defScope (topS 14)) (by decide +kernel))
        (fun _ _ _ _ _ => pg_tup rfl (pgs_cons (pg_name (i := 4) scCmpb.nd rfl (.inl rfl)) (pgs_cons (pg_name (i := 5) scCmpb.nd rfl (.inl rfl)) (pgs_cons (pg_name (i := 6) scCmpb.nd rfl (.inl rfl)) (pgs_cons (pg_name (i := 7) scCmpb.nd rfl (.inl rfl)) pgs_nil))))) (fun _ _ _ _ _ => pts_nil)
        (fun _ _ _ _ _ => pe_tup (pa_cons (pv 4) (pa_cons (pv 5) (pa_cons (pv 6) (pa_cons (pe_tup (pa_cons (pe_callB call_isi (by rfl) T.isinst (by decide +kernel) (pa_cons (pv 7) (pa_cons (pe_bltn (v := .ty "tuple") (by rfl) T.tuple (by decide +kernel) rfl) pa_nil))) (pa_cons (pv 7) pa_nil))) pa_nil))))))
      (pss_one (ps_ret (pe_tup (pa_cons (pv 1) (pa_cons (pe_callTy call_tuple_of (by rfl) T.tuple (by decide +kernel) (pa_cons (pv 3) pa_nil)) pa_nil)))))), ?_⟩
    refine q_unpT2 (ev_var rfl) h1 [some (.ref a), some c, some (.ref t), none, none, none, none, none] rfl (fun H1 e1 => ?_)
    have hl := h4.length
    refine q_asgLW (elw_T4 (K := K) (R := PmAt) (xs := ps) m.2.items pmat_kp (ev_var rfl) (st_of (e1 _ _ h3)) (by omega) (fun _ _ _ _ => rfl) hl.symm (fun i x n H2 e2 hx hn => ?_)) (fun l H2 ys hl2 e2 h2' hy => ?_)
    · obtain ⟨b, u, rfl, hb, hu⟩ := rp_at h4 hx hn
      refine ⟨b, _, _, _, u, rfl, (e1.trans e2) _ _ hb, ?_⟩
      obtain ⟨pa, pb, pc, d⟩ := n
      have hu2 := RvAt.keep (ExN.of (e1.trans e2)) hu
      cases d with
      | int j =>
        obtain rfl : u = .int j := hu2
        exact fun H3 e3 Q3 q3 => evs_tup4 (ev_var rfl) (ev_var rfl) (ev_var rfl) (eu_tup (ea_cons (ev_cb (ea_cons (ev_var rfl) (ea_cons ev_c ea_nil)) (rc_isInt (b := false) (by decide +kernel))) (ea_cons (ev_var rfl) ea_nil)) (by show 2 ≤ 100000; decide)) H3 e3 Q3 (fun v H4 e4 ⟨a1, u1, z1, z2, z3⟩ => q3 v H4 e4 ⟨a1, .ref u1, z1, z2, u1, rfl, z3⟩)
      | ch ch =>
        obtain ⟨uc, rfl, huc⟩ := hu2
        exact fun H3 e3 Q3 q3 => evs_tup4 (ev_var rfl) (ev_var rfl) (ev_var rfl) (eu_tup (ea_cons (ev_cb (ea_cons (ev_var rfl) (ea_cons ev_c ea_nil)) (rc_isi (b := true) (t := "tuple") (fun H4 e4 => .base (.tup (e4 _ _ huc))) (by decide +kernel))) (ea_cons (ev_var rfl) ea_nil)) (by show 2 ≤ 100000; decide)) H3 e3 Q3 (fun v H4 e4 ⟨a1, u1, z1, z2, z3⟩ => q3 v H4 e4 ⟨a1, .ref u1, z1, z2, u1, .ref uc, rfl, z3, uc, rfl, (e3.trans e4) _ _ huc⟩)
    · refine s_retS (evs_tup2 (ev_var rfl) (eu_tupL (ev_var rfl) (sq_of h2'))) (fun v H3 e3 ⟨a1, u1, z1, z2, z3⟩ => q v H3 ((e1.trans e2).trans e3) ⟨a1, c, u1, ys, z1, z2, h2.keep (ExN.of ((e1.trans e2).trans e3)), z3, hy.imp fun _ _ z => z.keep (ExN.of e3)⟩)
/-- order_free(meetings) -/
def spOrder : Sp := fun vs H Q _ => ∃ (t : Addr) (xs : List V) (ms : List Mg), vs = [.ref t] ∧ H t = some (.tup xs) ∧ RsAt H xs ms ∧ MgsL ms ∧ ∀ p H2 ys ns, H p = none → Ex H H2 → H2 p = some (.lst ys) → LsA MgAt H2 ys ns → SrtO.Srtd ltM ns → ns.Perm ms → Q (.ref p) H2
abbrev nsOrd : List Str := ["meetings", "meeting"]
theorem scOrd : FnScope nsOrd ["meetings"] (defScope (topS 13)) := ⟨rfl, rfl, rfl, by decide +kernel, rfl, by decide +kernel, by decide +kernel⟩
theorem rs_at {H : Hp} {vs : List V} {ps : List Mg} {i : Nat} {v : V} {p : Mg} (h : RsAt H vs ps) (hv : vs[i]? = some v) (hp : ps[i]? = some p) : RmAt H v p := by
  obtain ⟨x, h1, h2⟩ := LsA.get h hv
  rw [hp] at h1
  cases h1
  exact h2
theorem ok_order {f : Addr} {fd : FuncData} (F : Fun K "order_free" "order_free" (topS 13) f fd) (GC : CalX P w K mg base CX0 1 "comparable" spCmpb) (hs : mg "sorted" = none) : FnOk P w K mg base CX0 2 f fd ["meetings"] spOrder := by
  refine F.ok scOrd (fun vs H Q E h => ?_) (fun cdv A outer s H vs Q E hr h => ?_)
  · obtain ⟨t, xs, ms, rfl, _⟩ := h
    rfl
  · obtain ⟨t, xs, ms, rfl, h1, h2, h3, q⟩ := h
    refine ⟨_, pss_one (ps_ret (pe_callB (cr_sortM hr.units) (by rfl) hs (by decide +kernel) (pa_cons (pe_lc (own := [("meeting", 1)]) (g := gName 1) (tt := tYes) (te := tCallS spCmpb (fun _ => E0) (tCons (tVar 1) tNil)) rfl scOrd.nd (pi_tup (pv 0)) (blkOk_by (own := [("meeting", 1)]) (N := nsOrd) (sc := defScope (topS 13)) (by decide +kernel))
        (fun _ _ _ _ _ => pg_name (i := 1) scOrd.nd rfl (.inl rfl)) (fun _ _ _ _ _ => pts_nil)
        (fun _ _ _ _ _ => pe_cx (E := fun _ => E0) GC hr (by decide) (by rfl) at0 (pa_cons (pv 1) pa_nil))) pa_nil))), ?_⟩
    have hl := LsA.length h2
    have h10 := h3.1
    have g : EvLW (tLc (iTup K (tVar 0)) (gName 1) tYes (tCallS spCmpb (fun _ => E0) (tCons (tVar 1) tNil)) [1]) [some (.ref t), none] H (fun ys H' => LsA MgAt H' ys ms) := elw_T (K := K) (R := MgAt) (xs := xs) ms mgat_kp (ev_var rfl) (st_of h1) (by omega) (fun _ => rfl) hl.symm (fun i x n H1 e1 hx hn H2 e2 Q2 q2 =>
      ⟨_, rfl, x, n, rfl, (rs_at h2 hx hn).ex (e1.trans e2), h3.2 n (List.mem_of_getElem? hn), fun y H3 e3 hy => q2 y H3 e3 hy⟩)
    refine s_retCB g (fun p H1 ys hp e1 hp1 hy => ?_)
    refine ⟨p, ys, ms, rfl, sq_of hp1, hy, fun zs ns r hs hpm hz hr1 => q r _ zs ns (fresh_back e1 hr1) (e1.trans (Ex.new hr1)) upd_same (hz.imp fun _ _ z => z.keep (ExN.of (Ex.new hr1))) hs hpm⟩
end
end Fs

set_option Elab.async false
set_option linter.all false
set_option maxRecDepth 100000
set_option maxHeartbeats 8000000
namespace Fs
open PySem L2 Evl FsE FsC FsR FsK Mgs
/-! runs made of runs -/
/-- those of the values whose data have a property -/
def pk {α : Type} (p : α → Bool) : List α → List V → List V
  | m :: ms, v :: vs => if p m then v :: pk p ms vs else pk p ms vs
  | _, _ => []
section
variable {α : Type} {p : α → Bool}
theorem pk_ls {R : Hp → V → α → Prop} {H : Hp} : ∀ {vs : List V} {ms : List α}, LsA R H vs ms → LsA R H (pk p ms vs) (ms.filter p)
  | [], [], _ => trivial
  | v :: vs, m :: ms, h => by
    rw [pk, List.filter_cons]
    by_cases e : p m = true
    · rw [if_pos e, if_pos e]
      exact ⟨h.1, pk_ls h.2⟩
    · rw [if_neg e, if_neg e]
      exact pk_ls h.2
  | [], _ :: _, h => h.elim
  | _ :: _, [], h => h.elim
theorem pk_all : ∀ {ms : List α} {vs : List V}, vs.length = ms.length → (∀ m ∈ ms, p m = true) → pk p ms vs = vs
  | [], [], _, _ => rfl
  | m :: ms, v :: vs, h, g => by
    rw [pk, if_pos (g m List.mem_cons_self), pk_all (Nat.succ.inj h) fun x hx => g x (List.mem_cons_of_mem _ hx)]
  | [], _ :: _, h, _ => nomatch h
  | _ :: _, [], h, _ => nomatch h
theorem pk_none : ∀ {ms : List α} {vs : List V}, (∀ m ∈ ms, p m = false) → pk p ms vs = []
  | [], _, _ => by rw [pk]; intro _ _ _ _ e; cases e
  | _ :: _, [], _ => by rw [pk]; intro _ _ _ _ _ e; cases e
  | m :: ms, v :: vs, g => by
    rw [pk, if_neg (by rw [g m List.mem_cons_self]; decide)]
    exact pk_none fun x hx => g x (List.mem_cons_of_mem _ hx)
theorem pk_length : ∀ {ms : List α} {vs : List V}, (pk p ms vs).length ≤ vs.length
  | [], _ => by rw [pk]; exact Nat.zero_le _; intro _ _ _ _ e; cases e
  | _ :: _, [] => by rw [pk]; exact Nat.zero_le _; intro _ _ _ _ _ e; cases e
  | m :: ms, v :: vs => by
    have := pk_length (ms := ms) (vs := vs)
    rw [pk]
    split
    · show (pk p ms vs).length + 1 ≤ vs.length + 1
      omega
    · show (pk p ms vs).length ≤ vs.length + 1
      omega
theorem given_pk (d : α) : ∀ {ms : List α} {vs : List V}, vs.length = ms.length → given vs.length (fun i => p (ms.getD i d)) (fun i => vs.getD i .non) = pk p ms vs
  | [], [], _ => rfl
  | m :: ms, v :: vs, h => by
    have ih := given_pk d (ms := ms) (vs := vs) (Nat.succ.inj h)
    unfold given at ih ⊢
    show (((List.range (vs.length + 1)).filter _).map _) = _
    rw [List.range_succ_eq_map, List.filter_cons, List.filter_map]
    have e : ((fun i => p ((m :: ms).getD i d)) ∘ Nat.succ) = fun i => p (ms.getD i d) := rfl
    rw [e, pk]
    by_cases q : p m = true
    · rw [if_pos (show p ((m :: ms).getD 0 d) = true from q), if_pos q, List.map_cons, List.map_map]
      exact congrArg (v :: ·) ih
    · rw [if_neg (show ¬ p ((m :: ms).getD 0 d) = true from q), if_neg q, List.map_map]
      exact ih
  | [], _ :: _, h => nomatch h
  | _ :: _, [], h => nomatch h
end
def dflM : Mg := (⟨0, 0, 0⟩, ⟨[]⟩)
/-- the machine takes part -/
def mIn (k : Int) (m : Mg) : Bool := decide (k ∈ mach m)
def mOut (k : Int) (m : Mg) : Bool := !mIn k m
def SqA (K : PySem.W.Frag) (H : Hp) (l : Addr) (xs : List V) : Prop := SqL K H l xs ∨ H l = some (.tup xs)
theorem SqA.ex {K : PySem.W.Frag} {H H' : Hp} (e : Ex H H') {l : Addr} {xs : List V} (h : SqA K H l xs) : SqA K H' l xs := h.elim (fun z => .inl (ex_l e z)) fun z => .inr (e _ _ z)
structure RunO (K : PySem.W.Frag) (mg : Str → Option Value) (C : Addr) : Prop extends RunC K mg C where
  ha : PySem.W.findIn K (.ref C) "__class__" = some (some (.builtin "object.__class__"))
  hn : PySem.W.specialIn K (.builtin "object.__class__") "__get__" = some (some (.builtin "getset_descriptor.__get__"))
  htk : PySem.W.takesIn K (.builtin "object.__class__") = some true
  hm : PySem.W.mroIn K C (.type "object") = some true
theorem kOwnR {K : PySem.W.Frag} {C : Addr} : PySem.W.kitOne K (.ref C) (.ref C) = some true := by
  unfold PySem.W.kitOne
  rw [if_pos (beq_self_eq_true _)]
theorem tyx_rn {K : PySem.W.Frag} {mg : Str → Option Value} {C : Addr} (R : RunO K mg C) {H : Hp} {a : Addr} {xs : List V} (h : RnAt C H a xs) : ∀ H1, Ex H H1 → TyX K H1 (.ref a) (.ref C) := fun H1 e => by
  obtain ⟨dx, t, h1, _⟩ := h
  exact .base (.ins (e _ _ h1) R.cl R.ha R.hn R.htk R.hm)
def spRunInitA (K : PySem.W.Frag) (C : Addr) : Sp := fun vs H Q _ => ∃ (a dx l : Addr) (xs : List V) (H0 : Hp), vs = [.ref a, .ref l] ∧ H a = some (.ins C dx []) ∧ H0 a = none ∧ Ex H0 H ∧ SqA K H0 l xs ∧ ∀ H', Ex H0 H' → RnAt C H' a xs → Q .non H'
/-- a list or tuple -/
def EvSeq (K : PySem.W.Frag) (te : TE) (σ : L2.St) (H : Hp) (xs : List V) : Prop := ∀ H1, Ex H H1 → ∀ Q : VK, (∀ p H2, Ex H1 H2 → SqA K H2 p xs → Q (.ref p) H2) → te σ H1 Q
/-- a tuple -/
def EvQ (te : TE) (σ : L2.St) (H : Hp) (xs : List V) : Prop := ∀ H1, Ex H H1 → ∀ Q : VK, (∀ p H2, Ex H1 H2 → H2 p = some (.tup xs) → Q (.ref p) H2) → te σ H1 Q
/-- a new run -/
def EvRn (C : Addr) (te : TE) (σ : L2.St) (H : Hp) (xs : List V) : Prop := ∀ H1, Ex H H1 → ∀ Q : VK, (∀ r H2, H1 r = none → Ex H1 H2 → RnAt C H2 r xs → Q (.ref r) H2) → te σ H1 Q
section
variable {σ : L2.St} {H : Hp} {te ta tb : TE} {K : PySem.W.Frag} {C : Addr} {xs ys : List V}
theorem eq_l (h : EvL te σ H xs) : EvSeq K te σ H xs := fun H1 e Q q => h H1 e _ fun p H2 _ e2 h2 => q p H2 e2 (.inl (sq_of h2))
theorem eq_v {p : Addr} (h : Ev te σ H (.ref p)) (hp : SqA K H p xs) : EvSeq K te σ H xs := fun H1 e Q q => h H1 e _ fun H2 e2 => q p H2 e2 (hp.ex (e.trans e2))
theorem eq_q (h : EvQ te σ H xs) : EvSeq K te σ H xs := fun H1 e Q q => h H1 e _ fun p H2 e2 h2 => q p H2 e2 (.inr h2)
theorem s_fldQ {tv ta : TE} {a dx : Addr} {fs : List (Str × V)} {f : Str} {D : Ends} (hv : EvQ tv σ H xs) (ho : ∀ H1, Ex H H1 → Ev ta σ H1 (.ref a)) (hi : H a = some (.ins C dx fs)) (cl : Cls K C) (n : NoAttr K C f) (hl : fs.length < 1000)
    (k : ∀ t H1, t ≠ a → Ex H H1 → H1 t = some (.tup xs) → D.nx σ (upd H1 a (.ins C dx (putF f (.ref t) fs)))) : sFld K ta tv f D σ H :=
  hv H (Ex.refl H) _ fun t H1 e1 h1 => ho H1 e1 H1 (Ex.refl H1) _ fun H2 e2 => ⟨a, C, dx, fs, rfl, (e1.trans e2) _ _ hi, cl, n, hl, k t H2 (fun z => by
    subst z
    rw [e1 _ _ hi] at h1
    cases h1) (e1.trans e2) (e2 _ _ h1)⟩
/-- tuple(xs), xs a list or tuple -/
theorem eq_tup {l : Addr} (h : Ev te σ H (.ref l)) (hl : SqA K H l xs) : EvQ (tCB (fun xs H Q => ∃ p ys, xs = [V.ref p] ∧ ((SqL K H p ys ∧ ∀ l, H l = none → Q (.ref l) (upd H l (.tup ys))) ∨ (SqT K H p ys ∧ Q (.ref p) H))) (tCons te tNil)) σ H xs := fun H1 e Q q =>
  h H1 e _ fun H2 e2 => ⟨l, xs, rfl, by
    rcases hl with hl | hl
    · exact .inl ⟨ex_l (e.trans e2) hl, fun p hp => q p _ (e2.trans (Ex.new hp)) upd_same⟩
    · exact .inr ⟨st_of ((e.trans e2) _ _ hl), q l H2 e2 ((e.trans e2) _ _ hl)⟩⟩
theorem ern_make {E : XK} (h : EvSeq K te σ H xs) : EvRn C (tMake C (spRunInitA K C) [] E (tCons te tNil)) σ H xs := fun H1 e Q q =>
  h H1 e _ fun p H2 e2 hp => fun x dx hx hdx hne => by
    have x0 : Ex H2 (upd (upd H2 dx (.own x)) x (.ins C dx [])) := by
      intro b o hb
      rw [upd_ne (ne_of_none hb hx), upd_ne (ne_of_none hb hdx)]
      exact hb
    exact ⟨x, dx, p, xs, H2, rfl, upd_same, hx, x0, hp, fun H' e' hr => ⟨rfl, q x H' (fresh_back e2 hx) (e2.trans e') hr⟩⟩
theorem s_retRn {D : Ends} (h : EvRn C te σ H xs) (k : ∀ r H1, H r = none → Ex H H1 → RnAt C H1 r xs → D.rt (.ref r) H1) : tRet te D σ H := h H (Ex.refl H) _ k
theorem q_asgRn {i : Nat} {tz : TS} {D : Ends} (h : EvRn C te σ H xs) (k : ∀ r H1, H r = none → Ex H H1 → RnAt C H1 r xs → tz D (σ.set i (some (.ref r))) H1) : tSeq (tAsg te (gName i)) tz D σ H := h H (Ex.refl H) _ k
/-- self.rows -/
theorem ev_rows {mg : Str → Option Value} (R : RunC K mg C) {a : Addr} (h : Ev ta σ H (.ref a)) (hr : RnAt C H a xs) : EvQ (tFld K ta "rows") σ H xs := fun H1 e Q q =>
  h H1 e _ fun H2 e2 => by
    obtain ⟨dx, t, h1, h2⟩ := hr.ex (e.trans e2)
    exact ⟨a, C, dx, _, .ref t, rfl, h1, R.cl, R.nR, rn_lookup, q t H2 e2 h2⟩
theorem eq_cat (ha : EvQ ta σ H xs) (hb : EvQ tb σ H ys) (hz : xs.length + ys.length ≤ 100000) : EvQ (tOp (rCatA K) ta tb) σ H (xs ++ ys) := fun H1 e Q q =>
  ha H1 e _ fun p H2 e2 h2 => hb H2 (e.trans e2) _ fun r H3 e3 h3 => by
    have k2 := e3 _ _ h2
    refine ⟨p, r, xs, ys, rfl, rfl, st_of k2, st_of h3, sz_of (by omega), fun z => ?_, fun _ z => ?_, fun _ _ u hu => ?_⟩
    · subst z
      exact q r H3 (e2.trans e3) h3
    · subst z
      exact q p H3 (e2.trans e3) (by rw [List.append_nil]; exact k2)
    · exact q u _ ((e2.trans e3).trans (Ex.new hu)) upd_same
theorem evs_andV {Pv : V → Hp → Prop} (h1 : Ev ta σ H (.bl true)) (h2 : EvS tb σ H Pv) : EvS (tAndV ta tb) σ H Pv := fun H1 e Q q => h1 H1 e _ fun H2 e2 => ⟨true, rfl, by
  show tb σ H2 Q
  exact h2 H2 (e.trans e2) Q fun v H3 e3 hv => q v H3 (e2.trans e3) hv⟩
theorem evs_eqO {E : L2.St → XK} {ms ns : List Mg} (ha : EvQ ta σ H xs) (s1 : RsAt H xs ms) (o1 : MgsL ms) (hb : EvQ tb σ H ys) (s2 : RsAt H ys ns) (o2 : MgsL ns) :
    EvS (tOp (rEqM K) (tCallS spOrder E (tCons ta tNil)) (tCallS spOrder E (tCons tb tNil))) σ H (fun v _ => ∃ z, v = .bl z ∧ (z = true ↔ ms.Perm ns)) := fun H1 e Q q =>
  ha H1 e _ fun t H2 e2 h2 => ⟨t, xs, ms, rfl, h2, s1.ex (e.trans e2), o1, fun p H3 zs ks hp e3 hp3 hz hs hpm =>
    hb H3 ((e.trans e2).trans e3) _ fun t' H4 e4 h4 => ⟨t', ys, ns, rfl, h4, s2.ex (((e.trans e2).trans e3).trans e4), o2, fun p' H5 zs' ks' hp' e5 hp5 hz' hs' hpm' =>
      ⟨p, p', zs, zs', ks, ks', rfl, rfl, sq_of ((e4.trans e5) _ _ hp3), sq_of hp5, hz.imp fun _ _ z => z.keep (ExN.of (e4.trans e5)), hz', q _ H5 ((e2.trans e3).trans (e4.trans e5)) ⟨_, rfl, by
        rw [decide_eq_true_eq]
        exact ⟨fun z => hpm.symm.trans (z ▸ hpm'), fun z => srt_uniq hs hs' (hpm.trans (z.trans hpm'.symm))⟩⟩⟩⟩⟩
end
section
variable {P : Program} {w : World} {K : PySem.W.Frag} {mg : Str → Option Value} {base : Heap} {C : Addr}
theorem ok_runinitA {f : Addr} {fd : FuncData} (F : Fun K "__init__" "Run.__init__" (inClass (topS 11) 0) f fd) (T : RunT K mg) (R : RunC K mg C) : FnOk P w K mg base CX0 1 f fd ["self", "meetings"] (spRunInitA K C) := by
  refine F.ok scRunInit (fun vs H Q E h => ?_) (fun cdv A outer s H vs Q E hr h => ?_)
  · obtain ⟨a, dx, l, xs, H0, rfl, _⟩ := h
    rfl
  · obtain ⟨a, dx, l, xs, H0, rfl, ha, hna, e0, hl, q⟩ := h
    refine ⟨_, pss_one (ps_fld (pv 0) (pe_callTy call_tuple_of (by rfl) T.tuple (by decide +kernel) (pa_cons (pv 1) pa_nil)) rfl), ?_⟩
    refine s_fldQ (xs := xs) (eq_tup (ev_var rfl) (hl.ex e0)) (fun H1 e1 => ev_var rfl) ha R.cl R.nR (by show 0 < 1000; decide) (fun t H1 ht e1 h1 => ?_)
    exact q _ (Ex.mut (e0.trans e1) hna) ⟨dx, t, upd_same, by rw [upd_ne ht]; exact h1⟩
/-- run == run -/
def spRunEq (C : Addr) : Sp := fun vs H Q _ => ∃ (a b : Addr) (xs ys : List V) (ms ns : List Mg), vs = [.ref a, .ref b] ∧ RnAt C H a xs ∧ RsAt H xs ms ∧ MgsL ms ∧ RnAt C H b ys ∧ RsAt H ys ns ∧ MgsL ns ∧ ∀ z : Bool, (z = true ↔ ms.Perm ns) → RetV (.bl z) H Q
theorem scRunEq : FnScope ["self", "other"] ["self", "other"] (defScope (inClass (topS 11) 5)) := ⟨rfl, rfl, rfl, by decide +kernel, rfl, by decide +kernel, by decide +kernel⟩
theorem ok_runeq {f : Addr} {fd : FuncData} (F : Fun K "__eq__" "Run.__eq__" (inClass (topS 11) 5) f fd) (T : RunT K mg) (R : RunO K mg C) (GO : CalX P w K mg base CX0 2 "order_free" spOrder) : FnOk P w K mg base CX0 3 f fd ["self", "other"] (spRunEq C) := by
  refine F.ok scRunEq (fun vs H Q E h => ?_) (fun cdv A outer s H vs Q E hr h => ?_)
  · obtain ⟨a, b, xs, ys, ms, ns, rfl, _⟩ := h
    rfl
  · obtain ⟨a, b, xs, ys, ms, ns, rfl, r1, s1, o1, r2, s2, o2, q⟩ := h
    refine ⟨_, pss_one (ps_ret (pe_and (pe_callB (id := "isinstance") (r := rIsi K) call_isi (by rfl) T.isinst (by decide +kernel) (pa_cons (pv 1) (pa_cons (pe_glob (v := .ref C) (by rfl) R.mgC rfl) pa_nil)))
      (pe_one (pe_cmpR (op_eqM hr.units) (pe_cx (E := fun _ => E0) GO hr (by decide) (by rfl) at0 (pa_cons (pe_fld (pv 0) rfl) pa_nil)) (pe_cx (E := fun _ => E0) GO hr (by decide) (by rfl) at0 (pa_cons (pe_fld (pv 1) rfl) pa_nil)) (nomark _))))), ?_⟩
    refine s_retS (evs_andV (ev_cb (ea_cons (ev_var rfl) (ea_cons ev_c ea_nil)) (rc_isiOwn (tyx_rn R r2) kOwnR)) (evs_eqO (ev_rows R.toRunC (ev_var rfl) r1) s1 o1 (ev_rows R.toRunC (ev_var rfl) r2) s2 o2)) (fun v H1 e1 ⟨z, hv, hz⟩ => ?_)
    subst hv
    exact q z hz H1 e1
/-- run + run -/
def spRunAdd (C : Addr) : Sp := fun vs H Q _ => ∃ (a b : Addr) (xs ys : List V), vs = [.ref a, .ref b] ∧ RnAt C H a xs ∧ RnAt C H b ys ∧ xs.length + ys.length ≤ 100000 ∧ ∀ r H2, H r = none → Ex H H2 → RnAt C H2 r (xs ++ ys) → Q (.ref r) H2
theorem scRunAdd : FnScope ["self", "other"] ["self", "other"] (defScope (inClass (topS 11) 6)) := ⟨rfl, rfl, rfl, by decide +kernel, rfl, by decide +kernel, by decide +kernel⟩
theorem ok_runadd {f : Addr} {fd : FuncData} (F : Fun K "__add__" "Run.__add__" (inClass (topS 11) 6) f fd) (T : RunT K mg) (R : RunO K mg C) (MR : MakX P w K mg base CX0 1 "Run" C (spRunInitA K C)) : FnOk P w K mg base CX0 3 f fd ["self", "other"] (spRunAdd C) := by
  refine F.ok scRunAdd (fun vs H Q E h => ?_) (fun cdv A outer s H vs Q E hr h => ?_)
  · obtain ⟨a, b, xs, ys, rfl, _⟩ := h
    rfl
  · obtain ⟨a, b, xs, ys, rfl, r1, r2, hz, q⟩ := h
    refine ⟨_, pss_cons (ps_if (pt_not (pt_val (pe_callB (id := "isinstance") (r := rIsi K) call_isi (by rfl) T.isinst (by decide +kernel) (pa_cons (pv 1) (pa_cons (pe_glob (v := .ref C) (by rfl) R.mgC rfl) pa_nil))))) pss_never pss_nil)
      (pss_one (ps_ret (pe_mx (E := E0) MR hr (by omega) (by rfl) pass0 (pa_cons (pe_op op_catA (pe_fld (pv 0) rfl) (pe_fld (pv 1) rfl)) pa_nil)))), ?_⟩
    refine q_when (b := false) (et_is (et_not (et_B (ev_cb (ea_cons (ev_var rfl) (ea_cons ev_c ea_nil)) (rc_isiOwn (tyx_rn R r2) kOwnR)))) rfl) (fun hb => nomatch hb) (fun _ H1 e1 => ?_)
    exact s_retRn (ern_make (eq_q (eq_cat (ev_rows R.toRunC (ev_var rfl) (r1.ex e1)) (ev_rows R.toRunC (ev_var rfl) (r2.ex e1)) hz))) (fun r H2 hr e2 h2 => q r H2 (fresh_back e1 hr) (e1.trans e2) h2)
/-- a part of a run -/
def spPart (pp : Int → Mg → Bool) (C : Addr) : Sp := fun vs H Q _ => ∃ (a : Addr) (k : Int) (xs : List V) (ms : List Mg), vs = [.ref a, .int k] ∧ RnAt C H a xs ∧ RsAt H xs ms ∧ MgsOk ms ∧ ∀ r H2, H r = none → Ex H H2 → RnAt C H2 r (pk (pp k) ms xs) → Q (.ref r) H2
abbrev nsPart : List Str := ["self", "other", "meeting"]
theorem scFdv : FnScope nsPart ["self", "other"] (defScope (inClass (topS 11) 7)) := ⟨rfl, rfl, rfl, by decide +kernel, rfl, by decide +kernel, by decide +kernel⟩
theorem scSub : FnScope nsPart ["self", "other"] (defScope (inClass (topS 11) 8)) := ⟨rfl, rfl, rfl, by decide +kernel, rfl, by decide +kernel, by decide +kernel⟩
theorem el_part {σ : L2.St} {H : Hp} {tl : TE} {t : TT} {j : Nat} {vs : List Nat} {xs : List V} {ms : List Mg} {pp : Mg → Bool} (h : EvQ tl σ H xs) (hs : RsAt H xs ms) (hm : MgsOk ms) (hw : ∀ x, wipe ((wipe σ vs).set j (some x)) vs = wipe σ vs) (hj : ∀ x, ((wipe σ vs).set j (some x))[j]? = some (some x))
    (ht : ∀ (x : V) (m : Mg) H1, Ex H H1 → RmAt H1 x m → m.2.items.length ≤ 20 → EvT t ((wipe σ vs).set j (some x)) H1 (pp m)) : EvL (tLc (iTup K tl) (gName j) t (tVar j) vs) σ H (pk pp ms xs) := fun H0 e Q q => h H0 e _ fun a H1 e1 h1 => by
  have hl := LsA.length hs
  have g := el_lcT (K := K) (te := tVar j) (tl := tC (.ref a)) (j := j) (vs := vs) (t := t) (σ := σ) (H := H1) (fun i => pp (ms.getD i dflM)) (fun i => xs.getD i .non) ev_c (st_of h1) (by have := hm.1; omega) hw (fun i x H2 e2 hx => ?_) (fun i x H2 e2 hx _ => ?_)
  · rw [given_pk dflM hl] at g
    exact g H1 (Ex.refl H1) Q fun p H2 hp e2 h2 => q p H2 (fresh_back e1 hp) (e1.trans e2) h2
  · obtain ⟨m, hm1, hm2⟩ := LsA.get hs hx
    have em : ms.getD i dflM = m := by rw [List.getD_eq_getElem?_getD, hm1]; rfl
    rw [em]
    exact ht x m H2 ((e.trans e1).trans e2) (RmAt.ex ((e.trans e1).trans e2) hm2) (hm.2 m (List.mem_of_getElem? hm1))
  · have ex : xs.getD i .non = x := by rw [List.getD_eq_getElem?_getD, hx]; rfl
    rw [ex]
    exact ev_var (hj x)
theorem el_mach {σ : L2.St} {H : Hp} {ta : TE} {E : L2.St → XK} {x : V} {m : Mg} (h : Ev ta σ H x) (hm : RmAt H x m) (hz : m.2.items.length ≤ 20) : EvL (tCallS spMach E (tCons ta tNil)) σ H ((mach m).map V.int) :=
  el_cx (ea_cons h ea_nil) (fun H1 e1 Q1 q1 E1 => ⟨x, _, rfl, (hm.ex e1).mt, by unfold mach; rw [List.length_map]; exact hz, fun p H2 hp e2 h2 => q1 p H2 hp e2 h2⟩)
theorem inV_int (m : Int) (ms : List Int) : inV (.int m) (ms.map V.int) = decide (m ∈ ms) := by
  unfold inV
  rw [List.any_map]
  have e : ∀ k : Int, (eqV (.int k) (.int m)) = decide (k = m) := fun k => by
    show (k == m) = _
    by_cases h : k = m
    · subst h
      simp
    · rw [decide_eq_false h]
      exact beq_eq_false_iff_ne.mpr h
  by_cases h : m ∈ ms
  · rw [decide_eq_true h]
    exact List.any_eq_true.mpr ⟨m, h, by show eqV (.int m) (.int m) = true; rw [e, decide_eq_true rfl]⟩
  · rw [decide_eq_false h]
    refine List.any_eq_false.mpr fun k hk => ?_
    show ¬ eqV (.int k) (.int m) = true
    rw [e]
    intro z
    exact h (of_decide_eq_true z ▸ hk)
theorem flat_int (ms : List Int) : (ms.map V.int).all flatV = true := by
  rw [List.all_map]
  exact List.all_eq_true.mpr fun _ _ => rfl
theorem ok_fdv {f : Addr} {fd : FuncData} (F : Fun K "__floordiv__" "Run.__floordiv__" (inClass (topS 11) 7) f fd) (R : RunC K mg C) (GI : CalX P w K mg base CX0 1 "is_int" spIsInt) (GM : CalX P w K mg base CX0 1 "machines_in" spMach) (MR : MakX P w K mg base CX0 1 "Run" C (spRunInitA K C)) : FnOk P w K mg base CX0 3 f fd ["self", "other"] (spPart mIn C) := by
  refine F.ok scFdv (fun vs H Q E h => ?_) (fun cdv A outer s H vs Q E hr h => ?_)
  · obtain ⟨a, k, xs, ms, rfl, _⟩ := h
    rfl
  · obtain ⟨a, k, xs, ms, rfl, r1, s1, o1, q⟩ := h
    refine ⟨_, pss_cons (ps_if (pt_not (pt_val (pe_cx (E := fun _ => E0) GI hr (by decide) (by rfl) at0 (pa_cons (pv 1) pa_nil)))) pss_never pss_nil)
      (pss_one (ps_ret (pe_mx (E := E0) MR hr (by omega) (by rfl) pass0 (pa_cons (pe_lc (own := [("meeting", 2)]) (g := gName 2) (tt := tTest (tOp (rIn K false) (tVar 1) (tCallS spMach (fun _ => E0) (tCons (tVar 2) tNil)))) (te := tVar 2) rfl scFdv.nd (pi_tup (pe_fld (pv 0) rfl)) (blkOk_by (own := [("meeting", 2)]) (N := nsPart) (sc := defScope (inClass (topS 11) 7)) (by decide +kernel))
        (fun _ _ _ _ _ => pg_name (i := 2) scFdv.nd rfl (.inl rfl)) (fun _ _ _ _ _ => pts_one (pt_cmpR op_in_seq (pv 1) (pe_cx (E := fun _ => E0) GM hr (by decide) (by rfl) at0 (pa_cons (pv 2) pa_nil)) (by rfl))) (fun _ _ _ _ _ => pv 2)) pa_nil)))), ?_⟩
    refine q_when (b := false) (et_is (et_not (et_B (ev_cx (z := .bl true) (ea_cons (ev_var rfl) ea_nil) (fun H1 _ Q' q' E' => ⟨k, rfl, fun H2 e2 => q' H2 e2⟩)))) rfl) (fun hb => nomatch hb) (fun _ H1 e1 => ?_)
    refine s_retRn (ern_make (eq_l (el_part (K := K) (pp := mIn k) (ev_rows R (ev_var rfl) (r1.ex e1)) (s1.ex e1) o1 (fun _ => rfl) (fun _ => rfl) (fun x m H2 e2 hm hz => ?_)))) (fun r H2 hr e2 h2 => q r H2 (fresh_back e1 hr) (e1.trans e2) h2)
    refine et_is (et_test (ev_opL (ev_var rfl) (el_mach (ev_var rfl) hm hz) (fun p H3 hp e3 => rv_isL (K := K) (sq_of hp) rfl (flat_int _)))) ?_
    rw [inV_int]
    rfl
theorem ok_sub {f : Addr} {fd : FuncData} (F : Fun K "__sub__" "Run.__sub__" (inClass (topS 11) 8) f fd) (R : RunC K mg C) (GI : CalX P w K mg base CX0 1 "is_int" spIsInt) (GM : CalX P w K mg base CX0 1 "machines_in" spMach) (MR : MakX P w K mg base CX0 1 "Run" C (spRunInitA K C)) : FnOk P w K mg base CX0 3 f fd ["self", "other"] (spPart mOut C) := by
  refine F.ok scSub (fun vs H Q E h => ?_) (fun cdv A outer s H vs Q E hr h => ?_)
  · obtain ⟨a, k, xs, ms, rfl, _⟩ := h
    rfl
  · obtain ⟨a, k, xs, ms, rfl, r1, s1, o1, q⟩ := h
    refine ⟨_, pss_cons (ps_if (pt_not (pt_val (pe_cx (E := fun _ => E0) GI hr (by decide) (by rfl) at0 (pa_cons (pv 1) pa_nil)))) pss_never pss_nil)
      (pss_one (ps_ret (pe_mx (E := E0) MR hr (by omega) (by rfl) pass0 (pa_cons (pe_lc (own := [("meeting", 2)]) (g := gName 2) (tt := tTest (tOp (rIn K true) (tVar 1) (tCallS spMach (fun _ => E0) (tCons (tVar 2) tNil)))) (te := tVar 2) rfl scSub.nd (pi_tup (pe_fld (pv 0) rfl)) (blkOk_by (own := [("meeting", 2)]) (N := nsPart) (sc := defScope (inClass (topS 11) 8)) (by decide +kernel))
        (fun _ _ _ _ _ => pg_name (i := 2) scSub.nd rfl (.inl rfl)) (fun _ _ _ _ _ => pts_one (pt_cmpR op_notIn_seq (pv 1) (pe_cx (E := fun _ => E0) GM hr (by decide) (by rfl) at0 (pa_cons (pv 2) pa_nil)) (by rfl))) (fun _ _ _ _ _ => pv 2)) pa_nil)))), ?_⟩
    refine q_when (b := false) (et_is (et_not (et_B (ev_cx (z := .bl true) (ea_cons (ev_var rfl) ea_nil) (fun H1 _ Q' q' E' => ⟨k, rfl, fun H2 e2 => q' H2 e2⟩)))) rfl) (fun hb => nomatch hb) (fun _ H1 e1 => ?_)
    refine s_retRn (ern_make (eq_l (el_part (K := K) (pp := mOut k) (ev_rows R (ev_var rfl) (r1.ex e1)) (s1.ex e1) o1 (fun _ => rfl) (fun _ => rfl) (fun x m H2 e2 hm hz => ?_)))) (fun r H2 hr e2 h2 => q r H2 (fresh_back e1 hr) (e1.trans e2) h2)
    refine et_is (et_test (ev_opL (ev_var rfl) (el_mach (ev_var rfl) hm hz) (fun p H3 hp e3 => rv_niL (K := K) (sq_of hp) rfl (flat_int _)))) ?_
    rw [inV_int]
    rfl
end
end Fs

set_option Elab.async false
set_option linter.all false
set_option maxRecDepth 100000
set_option maxHeartbeats 8000000
namespace Fs
open PySem L2 Evl FsE FsC FsR FsK Mgs
/-! what a law does with runs -/
section
variable {σ : L2.St} {H : Hp} {te ta tb : TE} {K : PySem.W.Frag} {C : Addr} {xs ys : List V}
theorem ern_own {E : L2.St → XK} {a b : Addr} (ha : Ev ta σ H (.ref a)) (hb : Ev tb σ H (.ref b)) (r1 : RnAt C H a xs) (r2 : RnAt C H b ys) (hz : xs.length + ys.length ≤ 100000) : EvRn C (tOwn C (spRunAdd C) E ta tb) σ H (xs ++ ys) := fun H1 e Q q =>
  ha H1 e _ fun H2 e2 => hb H2 (e.trans e2) _ fun H3 e3 => by
    have k1 := r1.ex ((e.trans e2).trans e3)
    have k2 := r2.ex ((e.trans e2).trans e3)
    obtain ⟨dx, t, g1, g2⟩ := id k1
    obtain ⟨dy, u, f1, f2⟩ := id k2
    exact ⟨a, b, dx, dy, _, _, rfl, rfl, g1, f1, a, b, xs, ys, rfl, k1, k2, hz, fun r H4 hr e4 h4 => q r H4 (fresh_back (e2.trans e3) hr) ((e2.trans e3).trans e4) h4⟩
theorem ern_ownI {E : L2.St → XK} {pp : Int → Mg → Bool} {a : Addr} {k : Int} {ms : List Mg} (ha : Ev ta σ H (.ref a)) (hb : Ev tb σ H (.int k)) (r1 : RnAt C H a xs) (s1 : RsAt H xs ms) (o1 : MgsOk ms) : EvRn C (tOwnI C (spPart pp C) E ta tb) σ H (pk (pp k) ms xs) := fun H1 e Q q =>
  ha H1 e _ fun H2 e2 => hb H2 (e.trans e2) _ fun H3 e3 => by
    have k1 := r1.ex ((e.trans e2).trans e3)
    obtain ⟨dx, t, g1, g2⟩ := id k1
    exact ⟨a, dx, _, k, rfl, rfl, g1, a, k, xs, ms, rfl, k1, s1.ex ((e.trans e2).trans e3), o1, fun r H4 hr e4 h4 => q r H4 (fresh_back (e2.trans e3) hr) ((e2.trans e3).trans e4) h4⟩
theorem el_rowsRn {E : L2.St → XK} (h : EvRn C te σ H xs) (hz : xs.length ≤ 1000) : EvL (tCallS (spLRows C) E (tCons te tNil)) σ H xs := fun H1 e Q q =>
  h H1 e _ fun r H2 hr e2 h2 => ⟨r, xs, rfl, h2, hz, fun p H3 hp e3 h3 => q p H3 (fresh_back e2 hp) (e2.trans e3) h3⟩
theorem el_rows {E : L2.St → XK} {r : Addr} (h : Ev te σ H (.ref r)) (hr : RnAt C H r xs) (hz : xs.length ≤ 1000) : EvL (tCallS (spLRows C) E (tCons te tNil)) σ H xs := fun H1 e Q q =>
  h H1 e _ fun H2 e2 => ⟨r, xs, rfl, hr.ex (e.trans e2), hz, fun p H3 hp e3 h3 => q p H3 (fresh_back e2 hp) (e2.trans e3) h3⟩
theorem ev_lenRn {E : XK} (h : EvRn C te σ H xs) (hz : xs.length ≤ 1000) : Ev (tCB (rLenO C (spRunLen C) E) (tCons te tNil)) σ H (.int (xs.length : Int)) := fun H1 e Q q =>
  h H1 e _ fun r H2 hr e2 h2 => by
    obtain ⟨dx, t, g1, g2⟩ := id h2
    exact ⟨r, dx, _, rfl, g1, r, xs, rfl, h2, fun H3 e3 => ⟨xs.length, rfl, by omega, q H3 (e2.trans e3)⟩⟩
theorem ev_eqRn {E : XK} {b : Addr} {ms ns : List Mg} {z : Bool} (h : EvRn C te σ H xs) (hb : Ev tb σ H (.ref b)) (s1 : RsAt H xs ms) (o1 : MgsOk ms) (r2 : RnAt C H b ys) (s2 : RsAt H ys ns) (o2 : MgsOk ns) (hz : z = true ↔ ms.Perm ns) : Ev (tOp (rOwnEq C (spRunEq C) E) te tb) σ H (.bl z) := fun H1 e Q q =>
  h H1 e _ fun r H2 hr e2 h2 => hb H2 (e.trans e2) _ fun H3 e3 => by
    have k1 := h2.ex e3
    have x3 := (e.trans e2).trans e3
    have k2 := r2.ex x3
    obtain ⟨dx, t, g1, g2⟩ := id k1
    obtain ⟨dy, u, f1, f2⟩ := id k2
    refine ⟨r, b, dx, dy, _, _, rfl, rfl, g1, f1, r, b, xs, ys, ms, ns, rfl, k1, s1.ex x3, o1.l, k2, s2.ex x3, o2.l, fun y hy H4 e4 => ?_⟩
    have e : y = z := by
      cases y with
      | true => exact (hz.mpr (hy.mp rfl)).symm
      | false =>
        cases z with
        | false => rfl
        | true => exact absurd (hy.mpr (hz.mp rfl)) (by decide)
    subst e
    exact q H4 ((e2.trans e3).trans e4)
/-- the law's own list of rows -/
theorem el_partL {t : TT} {j : Nat} {vs : List Nat} {a : Addr} {ms : List Mg} {pp : Mg → Bool} (h : Ev ta σ H (.ref a)) (ha : H a = some (.lst xs)) (hs : RsAt H xs ms) (hm : MgsOk ms) (hw : ∀ x, wipe ((wipe σ vs).set j (some x)) vs = wipe σ vs) (hj : ∀ x, ((wipe σ vs).set j (some x))[j]? = some (some x))
    (ht : ∀ (x : V) (m : Mg) H1, Ex H H1 → RmAt H1 x m → m.2.items.length ≤ 20 → EvT t ((wipe σ vs).set j (some x)) H1 (pp m)) : EvL (tLc (iList K ta) (gName j) t (tVar j) vs) σ H (pk pp ms xs) := by
  have hl := LsA.length hs
  have g := el_lcL (K := K) (te := tVar j) (tl := ta) (j := j) (vs := vs) (t := t) (σ := σ) (H := H) (fun i => pp (ms.getD i dflM)) (fun i => xs.getD i .non) h (sq_of ha) (by have := hm.1; omega) hw (fun i x H2 e2 hx => ?_) (fun i x H2 e2 hx _ => ?_)
  · rw [given_pk dflM hl] at g
    exact g
  · obtain ⟨m, hm1, hm2⟩ := LsA.get hs hx
    have em : ms.getD i dflM = m := by rw [List.getD_eq_getElem?_getD, hm1]; rfl
    rw [em]
    exact ht x m H2 e2 (RmAt.ex e2 hm2) (hm.2 m (List.mem_of_getElem? hm1))
  · have ex : xs.getD i .non = x := by rw [List.getD_eq_getElem?_getD, hx]; rfl
    rw [ex]
    exact ev_var (hj x)
/-- [part[0] for part in row[1]] -/
theorem el_mach0 {j : Nat} {vs : List Nat} {x : V} {m : Mg} (h : Ev ta σ H x) (hm : RmAt H x m) (hz : m.2.items.length ≤ 20) (hw : ∀ x, wipe ((wipe σ vs).set j (some x)) vs = wipe σ vs) (hj : ∀ x, ((wipe σ vs).set j (some x))[j]? = some (some x)) :
    EvL (tLc (iTup K (tOp (rIxT K) ta (tC (.int 1)))) (gName j) tYes (tOp (rIxT K) (tVar j) (tC (.int 0))) vs) σ H ((mach m).map V.int) := by
  obtain ⟨a, t, c, ps, rfl, h1, h2, h3⟩ := hm.mt
  have hl := h3.length
  have hmz : (mach m).length ≤ 20 := by unfold mach; rw [List.length_map]; exact hz
  refine el_lcTy (xs := ps) (ev_op h ev_c (rv_ixT (i := 1) (st_of h1) (atI_nat (j := 1) rfl))) (st_of h2) (by omega) hw (by rw [List.length_map]; exact hl.symm) (fun i x y H2 e2 hx hy => ?_)
  obtain ⟨b, k, x1, x2, x3, rfl, rfl, hb⟩ := LsA.pt h3 hx hy
  exact ev_op (ev_var (hj _)) ev_c (rv_ixT (i := 0) (st_of (e2 _ _ hb)) (atI_nat (j := 0) rfl))
/-- xs == ys, the same objects in both -/
theorem rv_eqRefs {a b : Addr} (ha : H a = some (.lst xs)) (hb : H b = some (.lst xs)) (hx : ∀ v ∈ xs, ∃ c, v = V.ref c) : RV (rEqV K) (.ref a) (.ref b) H (.bl true) := fun H1 e _ q => by
  refine ⟨1, by decide, .inl ⟨a, b, xs, xs, rfl, rfl, sq_of (e _ _ ha), sq_of (e _ _ hb), ?_⟩, q H1 (Ex.refl H1)⟩
  have : ∀ {vs : List V}, (∀ v ∈ vs, ∃ c, v = V.ref c) → Paired (EqV K H1 1) vs vs := by
    intro vs
    induction vs with
    | nil => intro _; exact .nil
    | cons v vs ih =>
      intro h
      obtain ⟨c, rfl⟩ := h v List.mem_cons_self
      exact .cons (.inr (.inl ⟨c, rfl, rfl⟩)) (ih fun u hu => h u (List.mem_cons_of_mem _ hu))
  exact this hx
end
theorem part_perm (k : Int) (ms : List Mg) : (ms.filter (mIn k) ++ ms.filter (mOut k)).Perm ms := List.filter_append_perm (mIn k) ms
theorem MgsOk.filter {ms : List Mg} (p : Mg → Bool) (h : MgsOk ms) : MgsOk (ms.filter p) := ⟨Nat.le_trans (List.length_filter_le _ _) h.1, fun m hm => h.2 m (List.mem_filter.mp hm).1⟩
theorem MgsOk.part {k : Int} {ms : List Mg} (h : MgsOk ms) : MgsOk (ms.filter (mIn k) ++ ms.filter (mOut k)) := ⟨by rw [(part_perm k ms).length_eq]; exact h.1, fun m hm => h.2 m ((part_perm k ms).mem_iff.mp hm)⟩
end Fs

set_option Elab.async false
set_option linter.all false
set_option maxRecDepth 100000
set_option maxHeartbeats 4000000
/-! An own error over ValueError, by a class between: its __init__ calls super().__init__ with a fixed text, then stores its one argument as the field place. -/
namespace FsBplace
open PySem PySem.W PySem.Calls PyProof.Rows PySem.HandSPX
abbrev eS : Scope := { kind := .function, names := [(PySem.Str.ofString "self", .local), (PySem.Str.ofString "place", .local), (PySem.Str.ofString "__class__", .free), (PySem.Str.ofString "super", .globalImplicit)], isGenerator := false, isCoroutine := false, more := [] }
abbrev eA (p1 p2 : Pos) : Arguments := { posonlyargs := [], args := [{ arg := "self", annotation := none, pos := p1 }, { arg := "place", annotation := none, pos := p2 }], vararg := none, kwonlyargs := [], kw_defaults := [], kwarg := none, defaults := [] }
abbrev eB (msg : Expr) (p0 p1 p2 p3 p4 p5 p6 p7 p8 : Pos) : List Stmt := [.Expr (.Call (.Attribute (.Call (.Name "super" p0) [] [] p1) "__init__" p2) [msg] [] p3) p4, .Assign [.Attribute (.Name "self" p5) "place" p6] (.Name "place" p7) p8]
/-- the message -/
abbrev eM (z : Str) (q0 : Pos) : Expr := .Constant (.str z) 0 q0
abbrev mroVE : List Value := [.type "ValueError", .type "Exception", .type "BaseException", .type "object"]
/-- what the written part says of the class at C, and of its __init__, at fI -/
structure ErrTxt (prog : Program) (K : Frag) (mg : Str → Option Value) (x : Str) (C fI : Addr) : Prop where
  gC : mg x = some (.ref C)
  cls : ∃ nm q N bs bm sn sub ab col dd k0 k1 k2 k3 k5, K.lookup C = some (excClassObj nm q C N bs bm true sn sub ab col dd k0 k1 k2 k3 k5 "ValueError.__new__") ∧ refsVE bm = true
  ei : excInitIn K C mroVE "ValueError.__new__" = true
  sa : findIn K (.ref C) "__setattr__" = some (some (.builtin "object.__setattr__"))
  noN : findIn K (.ref C) "place" = some none
  iC : findIn K (.ref C) "__init__" = some (some (.ref fI))
  tC : typeIn K (.ref fI) = some (.type "function")
  kC : keepIn K (.ref C) = true
  exC : subIn K (.ref C) (.type "BaseException") = some true
  veC : subIn K (.ref C) (.type "ValueError") = some true
  tyC : typeIn K (.ref C) = some (.type "type")
  slf : mroIn K C (.ref C) = some true
  sup : ks_superIn K C C "__init__" = some (some (.builtin "ValueError.__init__"))
  opq : nsIn K cStatics "thirdparty.any" = some none
  gs : mg "super" = none
  top : (prog.main.scope.names.lookup ("super" : Str)).isSome = false
  fn : ∃ (oc : Value) (od an : Option Addr) (kV doc pm ct : Value) (osl : Array (Option Value)) (qual : Str) (cda cc : Addr) (ccl cl : Value) (cdd cld : Option Addr) (ccs csl : Array (Option Value)) (vs : Array Value) (file : Str) (tf : Tok) (zM : Str) (p1 p2 q0 r0 r1 r2 r3 r4 r5 r6 r7 r8 : Pos),
    K.lookup fI = some ⟨oc, od, .func (ksFn "__init__" qual (eA p1 p2) (eB (eM zM q0) r0 r1 r2 r3 r4 r5 r6 r7 r8) eS .none kV doc pm an (.ref cda) ct cc), osl⟩ ∧ codeIn K (.ref cda) qual = true ∧
    K.lookup cda = some ⟨ccl, cdd, .fields vs, ccs⟩ ∧ vs[2]? = some (.str file tf) ∧ ((prog.main.file : Str) == file) = true ∧ K.lookup cc = some ⟨cl, cld, .cell (some (.ref C)), csl⟩ ∧ zM.length ≤ 1000 ∧ (r2.endLine == r3.line) = true
theorem call_line {o : Expr} {name : Str} {apos pos : Pos} {a : Expr} {env : Env} (hp : (apos.endLine == pos.line) = true) (hs : starEach [a] env = (false, eval a env) :: starEach [] env) : eval (.Call (.Attribute o name apos) [a] [] pos) env = (do
      let ov ← attributeBase o name env (eval o env)
      standAt apos.atName
      let (f, first) ← holding [ov] (getMethod ov name (do return (← importBound o env).getD true))
      callWith pos f first (backTo pos (starEach [a] env)) []) := by
  show (do
      let ov ← attributeBase o name env (eval o env)
      standAt apos.atName
      methodCall o name apos pos env ov 1 (backTo pos (starEach [a] env)) []) = _
  have e : methodCallForm 1 (backTo pos (starEach [a] env)) [] = true := by
    rw [hs]
    rfl
  unfold methodCall
  rw [e]
  unfold methodCallPos calleeOf
  rw [hp]
  simp only [Bool.not_true, Bool.false_or, if_true, pure_bind]
/-- what __init__ leaves of a fresh exception at x, over the heap h -/
structure BtEnd (h h' : Heap) (x C dx t1 : Addr) (v : Value) : Prop where
  keep : ∀ b o, h.get? b = some o → h'.get? b = some o
  obj : h'.get? x = some { cls := .ref C, dict := some dx, data := .fields #[.ref t1, .none, .none, .none, .bool false, .none] }
  dbig : h.objs.size ≤ dx
  dne : dx ≠ x
  ns : h'.Ns1 dx (fun y => if y = "place" then some v else none)
theorem str_len2 (a b : Str) : (a ++ b).length = a.length + b.length := by
  show (a.cps ++ b.cps).size = _
  rw [Array.size_append]
  rfl
theorem len1 (v : Value) : [v].length ≤ sizeLine := by
  rw [sizeLine_eq]
  exact (by decide : 1 ≤ 16777216)
section
variable {prog : Program} {w : World} {A : Around} {E : Value → Shared → Prop} {R : Result → Shared → Prop} {s : Shared} {K : Frag} {mg : Str → Option Value} {x0 : Str} {C fI : Addr}
theorem bt_init (T : ErrTxt prog K mg x0 C fI) {hp : Heap} {x t0 : Addr} {v : Value} (X : K.In hp) (G : hp.Ns mainGlobals mg) (Bl : ∃ mb, hp.Ns builtinsNs mb ∧ mb "super" = some (.type "super")) (hlim : s.heap.NoLimit)
    (k : ∀ b o, hp.get? b = some o → s.heap.get? b = some o) (hsz : hp.objs.size ≤ s.heap.objs.size) (hx : s.heap.get? x = some (excO C t0)) (hxn : hp.get? x = none) (hroom : A.depth < recursionLimit)
    (hq : ∀ h' tk' dx t1, BtEnd hp h' x C dx t1 v → R (.ok (.ret .none)) { s with heap := h', toks := tk' }) :
    codeAny (model prog w) A (.call (.ref fI) ⟨[.ref x, v], []⟩) R s := by
  obtain ⟨oc, od, an, kV, doc, pm, ct, osl, qual, cda, cc, ccl, cl, cdd, cld, ccs, csl, vs, file, tf, zM, p1, p2, q0, r0, r1, r2, r3, r4, r5, r6, r7, r8, ho, hcd, hcode, hvs, hfile, hcell, hM, hline⟩ := T.fn
  obtain ⟨nm, q, N, bs, bm, sn, sub, ab, col, dd, k0, k1, k2, k3, k5, hC, hbm⟩ := T.cls
  obtain ⟨mb, hb, hmb⟩ := Bl
  have hcl : clsIn K C = some { name := nm, bases := bs, mro := .ref C :: bm, ns := N, qualname := q, hasDict := true, slotNames := sn, subclasses := sub, abstract := ab, collection := col, hasDel := false } := by unfold clsIn; rw [hC] <;> rfl
  have Xs : K.In s.heap := X.keeps k
  have noc : ∀ y ∈ eS.names, y.2 ≠ .cell := by decide +kernel
  have locs : ∀ y ∈ [(("self" : Str), Value.ref x), ("place", v)], eS.names.lookup y.1 = some .local := fun y hy => by
    rcases List.mem_cons.mp hy with rfl | hy
    · rfl
    · rw [List.mem_singleton.mp hy]
      rfl
  refine ks_codeAny_call_defAt (body := eB (eM zM q0) r0 r1 r2 r3 r4 r5 r6 r7 r8) (binds := [("self", .ref x), ("place", v)]) hroom (Xs _ _ ho) rfl hlim (codeRec_of Xs hcd) rfl (BindsTo.of_eq (by first | rfl | with_unfolding_all rfl)) noc locs (fun h₁ hns hk₁ => ?_) rfl rfl rfl
  have Fr1 : Fr hp s.heap.objs.size h₁ (fun y => [(("self" : Str), Value.ref x), ("place", v)].reverse.lookup y) := ⟨hns, fun b o e => hk₁ b o (k b o e), hsz⟩
  have N1 : News hp s.heap.objs.size h₁ [(x, excObj C t0 none .none)] := fun p hp' => by
    rw [List.mem_singleton.mp hp']
    exact ⟨hk₁ _ _ hx, Nat.ne_of_lt (Heap.lt_size hx), hxn⟩
  show _root_.PySem.wpAt (model prog w) _ (.func _ (ksEnv qual eS s.heap.objs.size fI (.ref cda) cc)) (execs (eB (eM zM q0) r0 r1 r2 r3 r4 r5 r6 r7 r8) (ksEnv qual eS s.heap.objs.size fI (.ref cda) cc)) _ _ _
  refine ks_wpAt_execs_cons (ks_wpAt_Expr_any (ks_wpAt_MethodCall ?_ (call_line hline rfl)))
  generalize hE : (fun e s' => wpAny (model prog w) _ (leaving _ e) (fun x s'' => R (Except.error e) s'') (fun e' s'' => R (Except.error e') s'') s') = EE
  have X1 : K.In h₁ := X.keeps Fr1.keep
  -- super()
  refine ks_wpAt_super_base (env := ksEnv qual eS s.heap.objs.size fI (.ref cda) cc) rfl rfl rfl rfl (X1 _ _ ho) rfl rfl rfl (X1 _ _ hcode) rfl hvs hfile T.top ?_
  refine ks_loadName_global rfl rfl (loadGlobal_builtin (env := ksEnv qual eS s.heap.objs.size fI (.ref cda) cc) (G.keeps Fr1.keep) T.gs (hb.keeps Fr1.keep) hmb ⟨rfl, ?_⟩)
  refine wpAny_loadName_free rfl rfl rfl ⟨_, X1 _ _ hcell, rfl⟩ ?_
  refine wpAny_loadName_local (v := .ref x) rfl rfl hns rfl ?_
  refine ks_wpAny_isType_cls (X1 _ _ hC) rfl ⟨rfl, ?_⟩
  refine ks_wpAny_call_super (X1 _ _ hC) rfl (hk₁ _ _ hx) rfl (fun c z => by cases z) (looks_mroIn X1 T.slf) (fun h2 hso k2 => ?_)
  obtain ⟨F2, N2, l2⟩ := ks_newsPush (s := ⟨h₁, s.gens, s.drawn, s.toks + 2, s.os⟩) Fr1 N1 rfl hso k2
  -- its __init__, bound
  refine kxs_method kxs_ValueError F2 X N2 (List.mem_cons_self ..) (InstAt.of_exc0 (c2 := .none) (t := t0) N2 (List.mem_cons_of_mem _ (List.mem_cons_self ..))) T.opq T.sup T.veC rfl (fun u h3 F3 N3 l3 => ?_)
  refine kxs_callWith1 N3 (List.mem_cons_self ..) ?_ rfl rfl
  refine Calls.spliced_cons ?_
  show wpAny _ _ (eval (eM zM q0) (ksEnv qual eS s.heap.objs.size fI (.ref cda) cc)) _ _ _
  refine Calls.Constant_str ?_
  refine Calls.spliced_nil ⟨kxs_at N3 (List.mem_cons_self ..), ?_⟩
  have nx1 : h₁.objs.size ≠ x := fun z => Nat.lt_irrefl _ (z ▸ l2 _ (List.mem_cons_self ..) : x < x)
  have nx2 : u ≠ x := fun z => Nat.lt_irrefl _ (z ▸ l3 _ (List.mem_cons_of_mem _ (List.mem_cons_self ..)) : x < x)
  refine kxs_call F3 X N3 PySem.F.excBase_ValueError T.ei (List.mem_cons_self ..) (.tail nx2 (.tail nx1 (.head fun p hp' => by cases hp'))) (len1 _) (fun t' h4 F4 N4 l4 => ?_)
  -- self.field = field
  have X4 : K.In h4 := X.keeps F4.keep
  have hx4 : h4.get? x = some (excO C t') := (N4 (x, excObj C t' none .none) (List.mem_cons_of_mem _ (List.mem_cons_of_mem _ (List.mem_cons_of_mem _ (List.mem_cons_self ..))))).1
  refine wpAt_of_wpAny (wpAny_execs_cons (plainObj_wpAny_Assign_Attribute ?_))
  refine wpAny_Name (wpAny_loadName_local (v := v) rfl rfl F4.ns rfl ?_) rfl
  refine wpAny_Name (wpAny_loadName_local (v := .ref x) rfl rfl F4.ns rfl ?_) rfl
  refine set_plain X4 (ox := excO C t') (od := none) ⟨hx4, rfl, rfl, trivial⟩ T.sa ?_
  refine exc_osa X4 hx4 hcl (show refsVE (.ref C :: bm) = true from hbm) rfl T.noN (fun h5 tk5 dx k5 dn dne hx5 hn5 => ?_)
  have zz : s.heap.objs.size < h4.objs.size := F4.ns.lt
  exact wpAny_execs_nil (hq h5 tk5 dx t' ⟨fun b o e => k5 b o (fun z => by rw [z, hxn] at e; cases e) (F4.keep b o e), hx5, Nat.le_trans hsz (Nat.le_trans (Nat.le_of_lt zz) dn), dne, hn5⟩)
end
/-- a made one -/
structure BtMade (h h' : Heap) (e C d : Addr) (v : Value) : Prop where
  keep : ∀ b o, h.get? b = some o → h'.get? b = some o
  big : h.objs.size ≤ e
  obj : ∃ t1 : Addr, h'.get? e = some { cls := .ref C, dict := some d, data := .fields #[.ref t1, .none, .none, .none, .bool false, .none] }
  dbig : h.objs.size ≤ d
  dne : d ≠ e
  ns : h'.Ns1 d (fun y => if y = "place" then some v else none)
section
variable {prog : Program} {w : World} {A : Around} {R : Result → Shared → Prop} {s : Shared} {K : Frag} {mg : Str → Option Value} {x0 : Str} {C fI : Addr}
theorem bt_made (T : ErrTxt prog K mg x0 C fI) {v : Value} (X : K.In s.heap) (G : s.heap.Ns mainGlobals mg) (Bl : ∃ mb, s.heap.Ns builtinsNs mb ∧ mb "super" = some (.type "super")) (hlim : s.heap.NoLimit) (hroom : A.depth + 1 < recursionLimit)
    (hq : ∀ h' tk' e d, BtMade s.heap h' e C d v → R (.ok (.ret (.ref e))) { s with heap := h', toks := tk' }) : codeAny (model prog w) A (.call (.ref C) ⟨[v], []⟩) R s := by
  obtain ⟨nm, q, N, bs, bm, sn, sub, ab, col, dd, k0, k1, k2, k3, k5, hC, hbm⟩ := T.cls
  obtain ⟨g0, gs, dr, t, os⟩ := s
  let g2 : Heap := (g0.push (kdv_tup [v])).push (excO C g0.objs.size)
  have up : ∀ b o, g0.get? b = some o → g2.get? b = some o := fun b o e => Heap.get?_push_of_some _ (Heap.get?_push_of_some _ e)
  have at1 : g2.get? (g0.objs.size + 1) = some (excO C g0.objs.size) := by
    show ((g0.push (kdv_tup [v])).push (excO C g0.objs.size)).get? (g0.objs.size + 1) = _
    heap_get
  have sz2 : g2.objs.size = g0.objs.size + 1 + 1 := by
    show ((g0.push (kdv_tup [v])).push (excO C g0.objs.size)).objs.size = _
    rw [Heap.size_push, Heap.size_push]
  have free1 : g0.get? (g0.objs.size + 1) = none := by
    cases e : g0.get? (g0.objs.size + 1) with
    | none => rfl
    | some o => exact absurd (Nat.lt_of_succ_lt (Heap.lt_size e)) (Nat.lt_irrefl _)
  refine call_own F.excBase_ValueError (fun Y => refsVE_contains Y bm hbm) (X _ _ hC) (looks_findIn X T.iC) (fun self => bind_fn X self T.tC) (len1 _) ?_
  refine bt_init (s := ⟨g2, gs, dr, t, os⟩) (hp := g0) T X G Bl (hlim.keeps up) up (by show g0.objs.size ≤ g2.objs.size; omega) at1 free1 hroom fun h' t' dx t1 ⟨k, ho, dbig, dne, hns⟩ => ?_
  exact ⟨rfl, hq h' t' (g0.objs.size + 1) dx ⟨k, Nat.le_succ _, ⟨t1, ho⟩, dbig, dne, hns⟩⟩
end
end FsBplace
namespace FsBplace
open PySem PySem.Spec PyProof.Rows L2
theorem relO_one {v : V} {u : Value} (r : RelV v u) (g : Str) : RelO (List.lookup g [(("place" : Str), v)]) (if g = "place" then some u else none) := by
  by_cases h : g = "place"
  · rw [h, if_pos rfl, show List.lookup ("place" : Str) [(("place" : Str), v)] = some v by simp [List.lookup]]
    exact r
  · rw [if_neg h, show List.lookup g [(("place" : Str), v)] = none by simp [List.lookup, show (g == "place") = false by simpa using h]]
    trivial
/-- X(v), its one field v -/
def tNew (C : Addr) (te : TE) : TE := fun σ H Q => te σ H fun v H1 => ∀ a d, H1 a = none → H1 d = none → d ≠ a → Q (.ref a) (upd (upd H1 a (exo a C (some d))) d (exd d [("place", v)]))
theorem pe_new {X : Cx} {C fI : Addr} {x : Str} {e : Expr} {te : TE} {p pos : Pos} (T : ErrTxt X.prog X.K X.mg x C fI) (hr : Room 2 X.A) (he : PE X e te) (hg : Gl X x) (hdb : (x == ("__debug__" : Str)) = false := by decide)
    (hs : starEach [e] X.env = (false, eval e X.env) :: starEach [] X.env := by rfl) (hpl : (backTo pos (starEach [] X.env)).any (·.1) = false := by rfl) : PE X (.Call (.Name x p) [e] [] pos) (tNew C te) := by
  refine ⟨fun pins s σ H Q I h => ?_⟩
  refine wpAny_Call_Name_kw (ld_glob I hg T.gC ?_ hdb)
  refine PySem.W.callWith_K (h₀ := X.base) I.ok.mod.kin T.kC ?_ hs hpl
  rw [hs]
  refine Calls.spliced_cons (thn (he.run pins s σ H _ I h) fun u s1 ⟨v, H1, I1, r1, q1⟩ => ?_)
  refine Calls.spliced_nil ⟨I1.kIn, ?_⟩
  show wpAny _ _ (call (.ref C) [u]) _ _ _
  have lim := I1.nolimit
  obtain ⟨mb, b1, b2⟩ := I1.ok.mod.blt
  have gl : s1.heap.Ns mainGlobals X.mg := I1.ok.mod.glob.keeps I1.bk
  have bl : ∃ mb, s1.heap.Ns builtinsNs mb ∧ mb "super" = some (.type "super") := ⟨mb, b1.keeps I1.bk, (b2 _ (by decide)).trans Boot.«super»⟩
  obtain ⟨g0, gs, dr, t, os⟩ := s1
  refine wpAny_call (bt_made T I1.kIn gl bl lim (by have := hr.dp; omega) fun h' t' a d M => ?_)
  obtain ⟨t1, ho⟩ := M.obj
  obtain ⟨G, ge1, ge2⟩ := restrict h' fun b => decide (b ≠ d)
  have same : ∀ b, b ≠ d → G.get? b = h'.get? b := fun b hb => ge1 b (decide_eq_true hb)
  have gone : G.get? d = none := ge2 d (by simp)
  have old : ∀ b o, g0.get? b = some o → G.get? b = some o := fun b o z => (same b (Nat.ne_of_lt (Nat.lt_of_lt_of_le (Heap.lt_size z) M.dbig))).trans (M.keep b o z)
  have na := I1.hok.fresh M.big
  have nd := I1.hok.fresh M.dbig
  have I2 : Inv X pins σ (upd H1 a (exo a C (some d))) ⟨G, gs, dr, t', os⟩ := I1.laid (t' := t') old M.big (exo_ok ((same a (Ne.symm M.dne)).trans ho))
  have I3 := I2.laidN (h' := h') (a := d) (o := exd d [("place", v)]) (t' := t') (fun b o z => by
    by_cases hb : b = d
    · rw [hb, gone] at z
      cases z
    · exact (same b hb).symm.trans z) gone (by rw [upd_ne M.dne]; exact nd) (exd_ok M.ns (relO_one r1))
  exact ⟨.ref a, _, I3, rfl, q1 a d na nd M.dne⟩
end FsBplace

set_option Elab.async false
set_option linter.all false
set_option maxRecDepth 100000
set_option maxHeartbeats 8000000
namespace Fs
open PySem PySem.Spec PyProof.Rows L2 FsBplace
/-! errors that tell a place; run[i] and run.exchanged(k), which may raise them -/
/-- X(i) made, to be raised -/
def tMkI (C : Addr) (f : Str) (ta : TA) : L2.St → Hp → XK → Prop := fun σ H Q => ta σ H fun vs H1 => ∃ i : Int, vs = [.int i] ∧ ∀ d, H1 d = none → Q (.ref C) (some d) (upd H1 d (.xd [(f, .int i)]))
def RaisesI (P : Program) (w : World) (K : PySem.W.Frag) (mg : Str → Option Value) (base : Heap) (x : Str) (C : Addr) (f : Str) (k : Nat) : Prop :=
  ∀ (X : Cx), X.prog = P → X.w = w → X.K = K → X.mg = mg → X.base = base → Room k X.A → ∀ (a : Expr) (ta : TA) (p pos : Pos), PA X [a] ta → Gl X x → starEach (a :: []) X.env = (false, eval a X.env) :: starEach [] X.env → (backTo pos (starEach [] X.env)).any (·.1) = false →
    PMk X (.Call (.Name x p) [a] [] pos) (tMkI C f ta)
theorem raises_int {P : Program} {w : World} {K : PySem.W.Frag} {mg : Str → Option Value} {base : Heap} {x : Str} {C fI : Addr} {k : Nat} (hdb : (x == ("__debug__" : Str)) = false) (T : ErrTxt P K mg x C fI) : RaisesI P w K mg base x C "place" k := by
  intro X eP ew eK em eb hr a ta p pos ha hg he hpl pins s σ H Q I h
  subst eP ew eK em eb
  refine wpAny_Call_Name_kw (ld_glob I hg T.gC ?_ hdb)
  refine PySem.W.callWith_K (h₀ := X.base) I.ok.mod.kin T.kC (thn (ha.run pos pins s σ H _ I h) fun us s1 ⟨vs, H1, I1, r1, i, ev, q1⟩ => ?_) he hpl
  subst ev
  refine ⟨I1.kIn, ?_⟩
  cases r1 with
  | cons rv rn =>
    cases rn
    obtain ⟨tk, rfl⟩ := rv
    show wpAny _ _ (call (.ref C) [.int i tk]) _ _ _
    have lim := I1.nolimit
    obtain ⟨mb, b1, b2⟩ := I1.ok.mod.blt
    have gl : s1.heap.Ns mainGlobals X.mg := I1.ok.mod.glob.keeps I1.bk
    have bl : ∃ mb, s1.heap.Ns builtinsNs mb ∧ mb "super" = some (.type "super") := ⟨mb, b1.keeps I1.bk, (b2 _ (by decide)).trans Boot.«super»⟩
    obtain ⟨g0, gs, dr, t, os⟩ := s1
    refine wpAny_call (bt_made T I1.kIn gl bl lim (by have := hr.dp; omega) fun h' t' e d M => ?_)
    show MkP X pins σ Q (.ref e) ⟨h', gs, dr, t', os⟩
    obtain ⟨t1, ho⟩ := M.obj
    obtain ⟨G', ge1, ge2⟩ := restrict h' fun b => decide (b ≠ e)
    have same : ∀ b, b ≠ e → G'.get? b = h'.get? b := fun b hb => ge1 b (decide_eq_true hb)
    have gone : G'.get? e = none := ge2 e (by simp)
    have old : ∀ b o, g0.get? b = some o → G'.get? b = some o := fun b o q => (same b (Nat.ne_of_lt (Nat.lt_of_lt_of_le (Heap.lt_size q) M.big))).trans (M.keep b o q)
    have ob : ObjOk X.prog X.w (upd H1 d (.xd [(("place" : Str), V.int i)])) G' d (.xd [(("place" : Str), V.int i)]) := ⟨_, M.ns.at (fun o q => (same d M.dne).trans q), fun f => relO_one (v := V.int i) ⟨tk, rfl⟩ f⟩
    have J : Inv X pins σ (upd H1 d (.xd [(("place" : Str), V.int i)])) ⟨G', gs, dr, t', os⟩ := I1.laid (t' := t') old M.dbig ob
    refine ⟨e, _, _, ⟨G', gs, dr, t', os⟩, _, .ref C, some d, rfl, J, fun b o q => ?_, gone, ho, ⟨rfl, rfl⟩, rfl, rfl, ?_, rfl, I1.bare, raises_own T.exC T.tyC, q1 d (I1.hok.fresh M.dbig)⟩
    · by_cases hb : b = e
      · have q' : G'.get? b = some o := q
        rw [hb, gone] at q'
        cases q'
      · exact (same b hb).symm.trans q
    · rw [upd_ne (Ne.symm M.dne)]
      exact I1.hok.fresh M.big
end Fs
namespace Fs
open PySem L2 Evl FsE FsC FsR FsK Mgs FsT
/-- what is raised -/
def BadI (CN : Addr) (i : Int) (H : Hp) (E : XK) : Prop := ∀ (d : Addr) (H' : Hp), Ex H H' → H d = none → H' d = some (.xd [("place", .int i)]) → E (.ref CN) (some d) H'
theorem BadI.ex {CN : Addr} {i : Int} {H H' : Hp} {E : XK} (e : Ex H H') (h : BadI CN i H E) : BadI CN i H' E := fun d H2 e2 hd h2 => h d H2 (e.trans e2) (fresh_back e hd) h2
theorem takesF {X : Cx} : Takes X (fun _ _ _ _ => False) := fun _ _ ⟨_, _, _, _, _, _, _, _, _, _, _, _, _, _, _, _, w⟩ => w.elim
/-- do two meetings share a machine -/
def shr (m n : Mg) : Bool := (mach m).any fun k => decide (k ∈ mach n)
def swp {α : Type} (k : Nat) (xs : List α) (l e : α) : List α := xs.take k ++ [l, e] ++ xs.drop (k + 2)
section
variable {σ : L2.St} {H : Hp} {te ta tb : TE} {tl th : TO} {K : PySem.W.Frag} {C : Addr} {xs ys : List V} {lo hi : Option Int}
theorem eq_u (h : EvU te σ H xs) : EvQ te σ H xs := fun H1 e Q q => h H1 e _ fun p H2 _ e2 h2 => q p H2 e2 h2
theorem eq_sl (h : EvQ te σ H xs) (h1 : EvO tl σ H lo) (h2 : EvO th σ H hi) : EvQ (tSl (rSlA K) te tl th) σ H (cutV xs lo hi) := fun H1 e Q q =>
  h H1 e _ fun a H2 e2 k2 => h1 H2 (e.trans e2) _ fun H3 e3 => h2 H3 ((e.trans e2).trans e3) _ fun H4 e4 =>
    ⟨a, xs, rfl, st_of ((e3.trans e4) _ _ k2), fun ⟨z1, z2⟩ => q a H4 ((e2.trans e3).trans e4) (by
      have : cutV xs lo hi = xs := by
        unfold cutV
        rw [z1, z2, List.drop_zero, Nat.sub_zero, List.take_of_length_le (Nat.le_refl _)]
      rw [this]
      exact (e3.trans e4) _ _ k2), fun _ p hp => q p _ (((e2.trans e3).trans e4).trans (Ex.new hp)) upd_same⟩
theorem cut_take {k : Nat} : cutV xs none (some (k : Int)) = xs.take k := by
  unfold cutV
  rw [HT.sIx_nat]
  show (xs.drop 0).take (min k xs.length - 0) = _
  rw [List.drop_zero, Nat.sub_zero]
  by_cases h : k ≤ xs.length
  · rw [Nat.min_eq_left h]
  · rw [Nat.min_eq_right (by omega), List.take_of_length_le (Nat.le_refl _), List.take_of_length_le (by omega)]
theorem cut_drop {k : Nat} : cutV xs (some (k : Int)) none = xs.drop k := by
  unfold cutV
  rw [HT.sIx_nat]
  show (xs.drop (min k xs.length)).take (xs.length - min k xs.length) = _
  by_cases h : k ≤ xs.length
  · rw [Nat.min_eq_left h, List.take_of_length_le (by rw [List.length_drop]; omega)]
  · rw [Nat.min_eq_right (by omega), List.drop_of_length_le (Nat.le_refl _), List.drop_of_length_le (by omega), List.take_nil]
theorem q_getX {CN a : Addr} {i : Nat} {j : Int} {E : L2.St → XK} {tz : TS} {D : Ends} (ha : Ev ta σ H (.ref a)) (hb : Ev tb σ H (.int j)) (hr : RnAt C H a xs) (k1 : ∀ (n : Nat) v, j = (n : Int) → xs[n]? = some v → ∀ H1, Ex H H1 → tz D (σ.set i (some v)) H1)
    (k2 : ¬ (0 ≤ j ∧ j < (xs.length : Int)) → BadI CN j H (E σ)) : tSeq (tAsg (tIxO C (fun vs H Q E => ∃ (a : Addr) (xs : List V) (i : Int), vs = [.ref a, .int i] ∧ RnAt C H a xs ∧ (∀ (n : Nat) v, i = (n : Int) → xs[n]? = some v → RetV v H Q) ∧ (¬ (0 ≤ i ∧ i < (xs.length : Int)) → BadI CN i H E)) E ta tb) (gName i)) tz D σ H :=
  ha H (Ex.refl H) _ fun H1 e1 => hb H1 e1 _ fun H2 e2 => by
    have r := hr.ex (e1.trans e2)
    obtain ⟨dx, t, g1, g2⟩ := id r
    exact ⟨a, dx, _, rfl, g1, a, xs, j, rfl, r, fun n v hj hv H3 e3 => k1 n v hj hv H3 ((e1.trans e2).trans e3), fun z => (k2 z).ex (e1.trans e2)⟩
end
section
variable {P : Program} {w : World} {K : PySem.W.Frag} {mg : Str → Option Value} {base : Heap} {C CN CD : Addr}
def spRunGetX (C CN : Addr) : Sp := fun vs H Q E => ∃ (a : Addr) (xs : List V) (i : Int), vs = [.ref a, .int i] ∧ RnAt C H a xs ∧ (∀ (n : Nat) v, i = (n : Int) → xs[n]? = some v → RetV v H Q) ∧ (¬ (0 ≤ i ∧ i < (xs.length : Int)) → BadI CN i H E)
theorem ok_rungetX {f : Addr} {fd : FuncData} (F : Fun K "__getitem__" "Run.__getitem__" (inClass (topS 11) 4) f fd) (T : RunT K mg) (R : RunC K mg C) (GX : CalX P w K mg base CX0 2 "is_index" spIndex) (N : RaisesI P w K mg base "NoMeeting" CN "place" 2) : FnOk P w K mg base (L2.CX P w) 3 f fd ["self", "at"] (spRunGetX C CN) := by
  refine F.okX scRunGet (fun vs H Q E h => ?_) (fun cdv A outer s H vs Q E hr h => ?_)
  · obtain ⟨a, xs, i, rfl, _⟩ := h
    rfl
  · obtain ⟨a, xs, i, rfl, ⟨dx, t, h1, h2⟩, q1, q2⟩ := h
    refine ⟨_, pss_cons (ps_if (pt_not (pt_val (pe_cx (E := fun _ => E0) GX hr (by decide) (by rfl) at0 (pa_cons (pv 1) (pa_cons (pe_callB call_len_seq (by rfl) T.len PySem.boot_len (pa_cons (pe_fld (pv 0) rfl) pa_nil)) pa_nil)))))
        (pss_one (ps_raise (W := fun cls d _ H => E cls d H) rfl (takes_of rfl rfl rfl rfl) (N _ rfl rfl rfl rfl rfl hr _ _ _ _ (pa_cons (pv 1) pa_nil) (by rfl) (by rfl) (by rfl)))) pss_nil)
      (pss_one (ps_ret (pe_ix ix_tup (pe_fld (pv 0) rfl) (pv 1) (fun _ _ => rfl)))), ?_⟩
    refine q_when (b := !(decide (0 ≤ i) && decide (i < (xs.length : Int)))) (et_not (et_B (ev_cx (z := .bl (decide (0 ≤ i) && decide (i < (xs.length : Int)))) (ea_cons (ev_var rfl) (ea_cons (ev_lenT (K := K) (ev_fld (ev_var rfl) h1 R.cl R.nR rn_lookup) (st_of h2)) ea_nil)) (fun H1 _ Q' q' E' => ⟨_, _, rfl, fun H2 e2 => q' H2 e2⟩)))) (fun hb H1 e1 => ?_) (fun hb H1 e1 => ?_)
    · refine ⟨_, rfl, i, rfl, fun d hd => q2 (fun z => ?_) d _ (e1.trans (Ex.new hd)) (fresh_back e1 hd) upd_same⟩
      rw [decide_eq_true z.1, decide_eq_true z.2] at hb
      exact absurd hb (by decide)
    · have hb' : (decide (0 ≤ i) && decide (i < (xs.length : Int))) = true := by simpa using hb
      rw [Bool.and_eq_true, decide_eq_true_eq, decide_eq_true_eq] at hb'
      obtain ⟨n, rfl⟩ : ∃ n : Nat, i = (n : Int) := ⟨i.toNat, by omega⟩
      have hn : n < xs.length := by omega
      have hv := List.getElem?_eq_getElem hn
      exact s_ret (v := xs[n]) (ev_op (y := .int (n : Int)) (ev_fld (ev_var rfl) (e1 _ _ h1) R.cl R.nR rn_lookup) (ev_var rfl) (rv_ixT (st_of (e1 _ _ h2)) (atI_nat hv))) (fun H2 e2 => q1 n _ rfl hv H2 (e1.trans e2))
end
end Fs

set_option Elab.async false
set_option linter.all false
set_option maxRecDepth 100000
set_option maxHeartbeats 8000000
namespace Fs
open PySem L2 Evl FsE FsC FsR FsK Mgs FsT
section
variable {P : Program} {w : World} {K : PySem.W.Frag} {mg : Str → Option Value} {base : Heap} {C CN CD : Addr}
/-- takes_any(meeting, a list) -/
def spTakesL : Sp := fun vs H Q _ => ∃ (v : V) (l : Addr) (m : Mg) (ns : List Int), vs = [v, .ref l] ∧ RmAt H v m ∧ m.2.items.length ≤ 20 ∧ H l = some (.lst (ns.map V.int)) ∧ RetV (.bl ((mach m).any fun k => decide (k ∈ ns))) H Q
abbrev nsTakL : List Str := ["meeting", "machines", "machine"]
theorem scTakL : FnScope nsTakL ["meeting", "machines"] (defScope (topS 12)) := ⟨rfl, rfl, rfl, by decide +kernel, rfl, by decide +kernel, by decide +kernel⟩
theorem ev_anyLs {σ : L2.St} {H : Hp} {te : TE} {bs : List Bool} (h : EvL te σ H (bs.map V.bl)) : Ev (tCB (rAny K) (tCons te tNil)) σ H (.bl (bs.any id)) := fun H1 e Q q =>
  h H1 e _ fun p H2 _ e2 hp => ⟨p, bs, rfl, sq_of hp, q H2 e2⟩
/-- [k in ns for k in ms] -/
theorem ev_anyIn {σ : L2.St} {H : Hp} {tb : TE} {j : Nat} {vs : List Nat} {tl : TE} {l : Addr} {ms ns : List Int} (h : EvL tl σ H (ms.map V.int)) (hz : ms.length ≤ 20) (hw : ∀ x, wipe ((wipe σ vs).set j (some x)) vs = wipe σ vs) (hj : ∀ x, ((wipe σ vs).set j (some x))[j]? = some (some x))
    (hb : ∀ x H1, Ex H H1 → Ev tb ((wipe σ vs).set j (some x)) H1 (.ref l)) (hl : H l = some (.lst (ns.map V.int))) : Ev (tCB (rAny K) (tCons (tLc (iList K tl) (gName j) tYes (tOp (rIn K false) (tVar j) tb) vs) tNil)) σ H (.bl (ms.any fun k => decide (k ∈ ns))) := by
  have e : (ms.any fun k => decide (k ∈ ns)) = (ms.map fun k => decide (k ∈ ns)).any id := by rw [List.any_map]; rfl
  rw [e]
  refine ev_anyLs (el_lcNLy (xs := ms.map V.int) h (by rw [List.length_map]; omega) hw (by simp only [List.length_map]) (fun i x y H2 e2 hx hy => ?_))
  simp only [List.getElem?_map] at hx hy
  cases e : ms[i]? with
  | none => rw [e] at hx; cases hx
  | some m =>
    rw [e] at hx hy
    cases hx
    cases hy
    show Ev _ _ _ (.bl (decide (m ∈ ns)))
    rw [← inV_int]
    exact ev_op (ev_var (hj _)) (hb _ H2 e2) (rv_isL (K := K) (sq_of (e2 _ _ hl)) rfl (flat_int _))
theorem ok_takesL {f : Addr} {fd : FuncData} (F : Fun K "takes_any" "takes_any" (topS 12) f fd) (T : RunT K mg) (GM : CalX P w K mg base CX0 1 "machines_in" spMach) : FnOk P w K mg base CX0 2 f fd ["meeting", "machines"] spTakesL := by
  refine F.ok scTakL (fun vs H Q E h => ?_) (fun cdv A outer s H vs Q E hr h => ?_)
  · obtain ⟨v, l, m, ns, rfl, _⟩ := h
    rfl
  · obtain ⟨v, l, m, ns, rfl, hm, hz, hl, q⟩ := h
    refine ⟨_, pss_one (ps_ret (pe_callB (cr_any rfl) (by rfl) T.any (by decide +kernel) (pa_cons
      (pe_lc (own := [("machine", 2)]) (g := gName 2) (tt := tYes) (te := tOp (rIn K false) (tVar 2) (tVar 1)) rfl scTakL.nd (pi_list (pe_cx (E := fun _ => E0) GM hr (by decide) (by rfl) at0 (pa_cons (pv 0) pa_nil))) (blkOk_by (own := [("machine", 2)]) (N := nsTakL) (sc := defScope (topS 12)) (by decide +kernel))
        (fun _ _ _ _ _ => pg_name (i := 2) scTakL.nd rfl (Or.inl rfl)) (fun _ _ _ _ _ => pts_nil) (fun _ _ _ _ _ => pe_cmpR op_in_seq (pv 2) (pv 1) (by rfl))) pa_nil))), ?_⟩
    exact s_ret (ev_anyIn (el_mach (ev_var rfl) hm hz) (by unfold mach; rw [List.length_map]; exact hz) (fun _ => rfl) (fun _ => rfl) (fun x H1 e1 => ev_var rfl) hl) q
theorem ev_takes {σ : L2.St} {H : Hp} {ta tb : TE} {E : L2.St → XK} {v : V} {m : Mg} {ns : List Int} (h1 : Ev ta σ H v) (h2 : EvL tb σ H (ns.map V.int)) (hm : RmAt H v m) (hz : m.2.items.length ≤ 20) : Ev (tCallS spTakesL E (tCons ta (tCons tb tNil))) σ H (.bl ((mach m).any fun k => decide (k ∈ ns))) := fun H1 e Q q =>
  h1 H1 e _ fun H2 e2 => h2 H2 (e.trans e2) _ fun l H3 hl e3 h3 => ⟨v, l, m, ns, rfl, hm.ex ((e.trans e2).trans e3), hz, h3, fun H4 e4 => q H4 ((e2.trans e3).trans e4)⟩
/-- run.exchanged(k) -/
def spExch (C CN CD : Addr) : Sp := fun vs H Q E => ∃ (a : Addr) (k : Nat) (xs : List V) (ms : List Mg), vs = [.ref a, .int (k : Int)] ∧ RnAt C H a xs ∧ RsAt H xs ms ∧ MgsOk ms ∧ (xs.length ≤ k + 1 → BadI CN ((k : Int) + 1) H E) ∧
  ∀ l e m n, xs[k + 1]? = some l → xs[k]? = some e → ms[k + 1]? = some m → ms[k]? = some n → (shr m n = true → BadI CD (k : Int) H E) ∧ (shr m n = false → ∀ r H2, H r = none → Ex H H2 → RnAt C H2 r (swp k xs l e) → Q (.ref r) H2)
abbrev nsExch : List Str := ["self", "k", "later", "earlier"]
theorem scExch : FnScope nsExch ["self", "k"] (defScope (inClass (topS 11) 10)) := ⟨rfl, rfl, rfl, by decide +kernel, rfl, by decide +kernel, by decide +kernel⟩
theorem ok_exch {f g : Addr} {fd fdg : FuncData} (F : Fun K "exchanged" "Run.exchanged" (inClass (topS 11) 10) f fd) (R : RunC K mg C) (GM : CalX P w K mg base CX0 1 "machines_in" spMach) (GT : CalX P w K mg base CX0 2 "takes_any" spTakesL) (IX : IxM K C g) (FG : FnOk P w K mg base (L2.CX P w) 3 g fdg ["self", "at"] (spRunGetX C CN)) (BG : Binds K fdg ["self", "at"] [])
    (MR : MakX P w K mg base CX0 1 "Run" C (spRunInitA K C)) (N : RaisesI P w K mg base "Dependent" CD "place" 4) : FnOk P w K mg base (L2.CX P w) 5 f fd ["self", "k"] (spExch C CN CD) := by
  refine F.okX (k := 4) scExch (fun vs H Q E h => ?_) (fun cdv A outer s H vs Q E hr h => ?_)
  · obtain ⟨a, k, xs, ms, rfl, _⟩ := h
    rfl
  · obtain ⟨a, k, xs, ms, rfl, hrn, hrs, hms, qN, q⟩ := h
    refine ⟨_, pss_cons (ps_set (i := 2) scExch.nd rfl (Or.inl rfl) (pe_ixO (E := WE (fun cls d _ H => E cls d H)) (pv 0) (pe_op op_add (pv 1) pe_int) IX FG hr BG (fun σ => passAt (takes_of rfl rfl rfl rfl) σ)))
      (pss_cons (ps_set (i := 3) scExch.nd rfl (Or.inl rfl) (pe_ixO (E := WE (fun cls d _ H => E cls d H)) (pv 0) (pv 1) IX FG hr BG (fun σ => passAt (takes_of rfl rfl rfl rfl) σ)))
      (pss_cons (ps_if (pt_val (pe_cx (E := fun _ => E0) GT hr (by decide) (by rfl) at0 (pa_cons (pv 2) (pa_cons (pe_cx (E := fun _ => E0) GM hr (by decide) (by rfl) at0 (pa_cons (pv 3) pa_nil)) pa_nil))))
        (pss_one (ps_raise (W := fun cls d _ H => E cls d H) rfl (takes_of rfl rfl rfl rfl) (N _ rfl rfl rfl rfl rfl hr _ _ _ _ (pa_cons (pv 1) pa_nil) (by rfl) (by rfl) (by rfl)))) pss_nil)
      (pss_one (ps_ret (pe_mx (E := E0) MR hr (by omega) (by rfl) pass0 (pa_cons (pe_op op_catA (pe_op op_catA (pe_slice sl_tupA (pe_fld (pv 0) rfl) po_none (po_some (pv 1))) (pe_tup (pa_cons (pv 2) (pa_cons (pv 3) pa_nil)))) (pe_slice sl_tupA (pe_fld (pv 0) rfl) (po_some (pe_op op_add (pv 1) pe_int)) po_none)) pa_nil)))))), ?_⟩
    have hl := LsA.length hrs
    refine q_getX (j := (k : Int) + 1) (ev_var rfl) (ev_op (x := .int (k : Int)) (ev_var rfl) ev_c rv_I0) hrn (fun n l hn hv H1 e1 => ?_) (fun z => qN (by omega))
    obtain rfl : n = k + 1 := by omega
    refine q_getX (j := (k : Int)) (ev_var rfl) (ev_var rfl) (hrn.ex e1) (fun n2 e hn2 hv2 H2 e2 => ?_) (fun z => by have := (List.getElem?_eq_some_iff.mp hv).1; omega)
    obtain rfl : n2 = k := by omega
    have hk1 := (List.getElem?_eq_some_iff.mp hv).1
    obtain ⟨m, hm1, hm2⟩ := LsA.get hrs hv
    obtain ⟨n, hn1, hn2⟩ := LsA.get hrs hv2
    obtain ⟨q1, q2⟩ := q l e m n hv hv2 hm1 hn1
    have x2 := e1.trans e2
    refine q_when (b := shr m n) (et_B (ev_takes (ev_var rfl) (el_mach (ev_var rfl) (hn2.ex x2) (hms.2 n (List.mem_of_getElem? hn1))) (hm2.ex x2) (hms.2 m (List.mem_of_getElem? hm1)))) (fun hb H3 e3 => ?_) (fun hb H3 e3 => ?_)
    · exact ⟨_, rfl, _, rfl, fun d hd => q1 hb d _ ((x2.trans e3).trans (Ex.new hd)) (fresh_back (x2.trans e3) hd) upd_same⟩
    · have r3 := hrn.ex (x2.trans e3)
      have g1 : EvQ (tSl (rSlA K) (tFld K (tVar 0) "rows") tNoPart (tPart (tVar 1))) [some (.ref a), some (.int (n2 : Int)), some l, some e] H3 (xs.take n2) := cut_take ▸ eq_sl (K := K) (ev_rows R (ev_var rfl) r3) eo_none (eo_some (ev_var rfl))
      have g2 : EvQ (tSl (rSlA K) (tFld K (tVar 0) "rows") (tPart (tOp (rI0 fun i j => .int (i + j)) (tVar 1) (tC (.int 2)))) tNoPart) [some (.ref a), some (.int (n2 : Int)), some l, some e] H3 (xs.drop (n2 + 2)) := cut_drop ▸ eq_sl (K := K) (ev_rows R (ev_var rfl) r3) (eo_some (ev_is (ev_op (x := .int (n2 : Int)) (ev_var rfl) ev_c rv_I0) (congrArg V.int (by omega)))) eo_none
      have h10 := hms.1
      have t1 : (xs.take n2).length ≤ xs.length := by rw [List.length_take]; omega
      have t2 : (xs.drop (n2 + 2)).length ≤ xs.length := by rw [List.length_drop]; omega
      refine s_retRn (ern_make (eq_q (eq_cat (eq_cat g1 (eq_u (eu_tup (ea_cons (ev_var rfl) (ea_cons (ev_var rfl) ea_nil)) (by show 2 ≤ 100000; decide))) (by show _ + 2 ≤ 100000; omega)) g2 (by rw [List.length_append]; show _ + 2 + _ ≤ 100000; omega)))) (fun r H4 hr4 e4 h4 => q2 hb r H4 (fresh_back (x2.trans e3) hr4) ((x2.trans e3).trans e4) h4)
end
end Fs

set_option Elab.async false
set_option linter.all false
set_option maxRecDepth 100000
set_option maxHeartbeats 8000000
namespace Fs
open PySem L2 Evl FsE FsC FsR FsK Mgs FsT
/-- the errors' classes, as the law asks them -/
structure ErrP (K : PySem.W.Frag) (mg : Str → Option Value) (CN CD : Addr) : Prop where
  gN : mg "NoMeeting" = some (.ref CN)
  gD : mg "Dependent" = some (.ref CD)
  xN : XfC K CN
  xD : XfC K CD
  nN : PySem.W.findIn K (.ref CN) "place" = some none
  nD : PySem.W.findIn K (.ref CD) "place" = some none
  tN : PySem.W.exmOne K (.ref CN) (.ref CN) = some true
  tD : PySem.W.exmOne K (.ref CD) (.ref CD) = some true
  tX : PySem.W.exmOne K (.ref CN) (.ref CD) = some false
section
variable {P : Program} {w : World} {K : PySem.W.Frag} {mg : Str → Option Value} {base : Heap} {C CN CD : Addr}
def spTried (C : Addr) : Sp := fun vs H Q _ => ∃ (a : Addr) (k : Nat) (xs : List V) (ms : List Mg), vs = [.ref a, .int (k : Int)] ∧ RnAt C H a xs ∧ RsAt H xs ms ∧ MgsOk ms ∧ (xs.length ≤ k + 1 → ∀ t H', H t = none → Ex H H' → H' t = some (.tup [.str "none", .int ((k : Int) + 1)]) → Q (.ref t) H') ∧
  ∀ l e m n, xs[k + 1]? = some l → xs[k]? = some e → ms[k + 1]? = some m → ms[k]? = some n → (shr m n = true → ∀ t H', H t = none → Ex H H' → H' t = some (.tup [.str "dependent", .int (k : Int)]) → Q (.ref t) H') ∧
    (shr m n = false → ∀ t r H', H t = none → Ex H H' → H' t = some (.tup [.str "", .ref r]) → RnAt C H' r (swp k xs l e) → Q (.ref t) H')
abbrev nsTried : List Str := ["_law_run", "_law_place", "e"]
theorem scTried : FnScope nsTried ["_law_run", "_law_place"] (defScope (topS 21)) := ⟨rfl, rfl, rfl, by decide +kernel, rfl, by decide +kernel, by decide +kernel⟩
theorem rn_lk {t : Addr} {m : Str} (h : (m == "rows") = false) : List.lookup m [("rows", V.ref t)] = none := by
  rw [List.lookup_cons, h]
  rfl
theorem ok_tried {f fx : Addr} {fd dx : FuncData} (F : Fun K "_law_tried" "_law_tried" (topS 21) f fd) (R : RunC K mg C) (E1 : ErrP K mg CN CD) (MX : Meth K C "exchanged" fx) (FX : FnOk P w K mg base (L2.CX P w) 5 fx dx ["self", "k"] (spExch C CN CD)) (BX : Binds K dx ["self", "k"] []) : FnOk P w K mg base CX0 6 f fd ["_law_run", "_law_place"] (spTried C) := by
  refine F.ok (k := 5) scTried (fun vs H Q E h => ?_) (fun cdv A outer s H vs Q E hr h => ?_)
  · obtain ⟨a, k, xs, ms, rfl, _⟩ := h
    rfl
  · obtain ⟨a, k, xs, ms, rfl, hrn, hrs, hms, qN, q⟩ := h
    refine ⟨_, pss_one (ps_try_all (qs := [(.ref CD, 2, fun a cls d => tRet (tTup (tCons (tC (.str "dependent")) (tCons (tXf a cls d CD "place" (tVar 2)) tNil)))), (.ref CN, 2, fun a cls d => tRet (tTup (tCons (tC (.str "none")) (tCons (tXf a cls d CN "place" (tVar 2)) tNil))))])
        (tb := fun W => tRet (tTup (tCons (tC (.str "")) (tCons (tMethS C "exchanged" (spExch C CN CD) (WE W) (tVar 0) (tCons (tVar 1) tNil)) tNil)))) (W0 := fun _ _ _ _ => False) rfl rfl scTried.nd takesF
        (fun W pn xe tk _ => pss_one (ps_ret (by exact (pe_tup (pa_cons pe_str (pa_cons (pe_methS (pv 0) R.cl MX FX (hr.mono (by omega)) BX (fun σ => passAt tk σ) (pa_cons (pv 1) pa_nil)) pa_nil))))))
        (.one rfl rfl ⟨rfl, by decide, Or.inl E1.gD⟩ (fun a oe cls d pn hz hf => pss_one (ps_ret (by exact (pe_tup (pa_cons pe_str (pa_cons (pe_xf E1.xD E1.nD hz hf (pv 2)) pa_nil))))))
          (.one rfl rfl ⟨rfl, by decide, Or.inl E1.gN⟩ (fun a oe cls d pn hz hf => pss_one (ps_ret (by exact (pe_tup (pa_cons pe_str (pa_cons (pe_xf E1.xN E1.nN hz hf (pv 2)) pa_nil)))))) .none))), ?_⟩
    obtain ⟨dx0, t0, g1, g2⟩ := id hrn
    refine ⟨_, rfl, a, dx0, _, rfl, g1, rn_lk (by decide +kernel), _, rfl, a, k, xs, ms, rfl, hrn, hrs, hms, fun hlen d H9 e9 hd h9 => ?_, fun l e m n hl he hm hn => ⟨fun hsh d H9 e9 hd h9 => ?_, fun hsh r H9 hr9 e9 h9 => ?_⟩⟩
    · refine ⟨false, E1.tX, (fun z => nomatch z), fun _ => ⟨true, E1.tN, fun _ x hx => ?_, (fun z => nomatch z)⟩⟩
      exact ⟨_, rfl, rfl, rfl, d, _, .int ((k : Int) + 1), rfl, h9, rfl, by show 2 ≤ sizeLine; decide, fun t ht => qN hlen t _ (fresh_back e9 ht) (e9.trans (Ex.new ht)) upd_same⟩
    · refine ⟨true, E1.tD, fun _ x hx => ?_, fun z => nomatch z⟩
      exact ⟨_, rfl, rfl, rfl, d, _, .int (k : Int), rfl, h9, rfl, by show 2 ≤ sizeLine; decide, fun t ht => (q l e m n hl he hm hn).1 hsh t _ (fresh_back e9 ht) (e9.trans (Ex.new ht)) upd_same⟩
    · exact ⟨by show 2 ≤ sizeLine; decide, fun t ht => (q l e m n hl he hm hn).2 hsh t r _ (fresh_back e9 ht) (e9.trans (Ex.new ht)) upd_same (h9.ex (Ex.new ht))⟩
end
end Fs

set_option Elab.async false
set_option linter.all false
set_option maxRecDepth 100000
set_option maxHeartbeats 8000000
namespace Fs
open PySem L2 Evl FsE FsC FsR FsK Mgs FsT
theorem split2 {α : Type} {xs : List α} {k : Nat} {e l : α} (h1 : xs[k]? = some e) (h2 : xs[k + 1]? = some l) : xs = xs.take k ++ e :: l :: xs.drop (k + 2) := by
  have a := List.getElem?_eq_some_iff.mp h1
  have b := List.getElem?_eq_some_iff.mp h2
  have e1 := List.drop_eq_getElem_cons a.1
  have e2 := List.drop_eq_getElem_cons b.1
  rw [a.2] at e1
  rw [b.2] at e2
  rw [← e2, ← e1, List.take_append_drop]
theorem swp_eq {α : Type} (xs : List α) (k : Nat) (l e : α) : swp k xs l e = xs.take k ++ l :: e :: xs.drop (k + 2) := by
  unfold swp
  rw [List.append_assoc]
  rfl
theorem take_len {α : Type} {xs : List α} {k : Nat} {l : α} (h2 : xs[k + 1]? = some l) : (xs.take k).length = k := by
  have b := (List.getElem?_eq_some_iff.mp h2).1
  rw [List.length_take]
  omega
theorem swp_k {α : Type} {xs : List α} {k : Nat} {l e : α} (h2 : xs[k + 1]? = some l) : (swp k xs l e)[k]? = some l := by
  rw [swp_eq, List.getElem?_append_right (by rw [take_len h2]; omega), take_len h2, Nat.sub_self]
  rfl
theorem swp_k1 {α : Type} {xs : List α} {k : Nat} {l e : α} (h2 : xs[k + 1]? = some l) : (swp k xs l e)[k + 1]? = some e := by
  rw [swp_eq, List.getElem?_append_right (by rw [take_len h2]; omega), take_len h2, Nat.add_sub_cancel_left]
  rfl
theorem swp_back {α : Type} {xs : List α} {k : Nat} {l e : α} (h1 : xs[k]? = some e) (h2 : xs[k + 1]? = some l) : swp k (swp k xs l e) e l = xs := by
  have t := take_len h2
  have a : (swp k xs l e).take k = xs.take k := by rw [swp_eq, List.take_append_of_le_length (by omega), List.take_of_length_le (by omega)]
  have b : (swp k xs l e).drop (k + 2) = xs.drop (k + 2) := by
    rw [swp_eq, List.drop_append, t, List.drop_of_length_le (by omega), show k + 2 - k = 2 by omega]
    rfl
  rw [swp_eq (swp k xs l e), a, b]
  exact (split2 h1 h2).symm
theorem swp_perm {α : Type} {xs : List α} {k : Nat} {l e : α} (h1 : xs[k]? = some e) (h2 : xs[k + 1]? = some l) : (swp k xs l e).Perm xs := by
  rw [swp_eq]
  conv => rhs; rw [split2 h1 h2]
  exact List.Perm.append_left _ (List.Perm.swap _ _ _)
theorem swp_len {α : Type} {xs : List α} {k : Nat} {l e : α} (h1 : xs[k]? = some e) (h2 : xs[k + 1]? = some l) : (swp k xs l e).length = xs.length := (swp_perm h1 h2).length_eq
theorem shr_sym {m n : Mg} (h : shr m n = false) : shr n m = false := by
  unfold shr at h ⊢
  rw [List.any_eq_false] at h ⊢
  intro x hx z
  have z' := of_decide_eq_true z
  exact h x z' (decide_eq_true hx)
theorem LsA.take {α : Type} {R : Hp → V → α → Prop} {H : Hp} : ∀ {vs : List V} {xs : List α} (k : Nat), LsA R H vs xs → LsA R H (vs.take k) (xs.take k)
  | [], [], k, _ => by rw [List.take_nil, List.take_nil]; trivial
  | _ :: _, _ :: _, 0, _ => trivial
  | _ :: _, _ :: _, k + 1, h => ⟨h.1, LsA.take k h.2⟩
  | [], _ :: _, _, h => h.elim
  | _ :: _, [], _, h => h.elim
theorem LsA.drop {α : Type} {R : Hp → V → α → Prop} {H : Hp} : ∀ {vs : List V} {xs : List α} (k : Nat), LsA R H vs xs → LsA R H (vs.drop k) (xs.drop k)
  | [], [], k, _ => by rw [List.drop_nil, List.drop_nil]; trivial
  | _ :: _, _ :: _, 0, h => h
  | _ :: _, _ :: _, k + 1, h => LsA.drop k h.2
  | [], _ :: _, _, h => h.elim
  | _ :: _, [], _, h => h.elim
theorem rs_swp {H : Hp} {xs : List V} {ms : List Mg} {k : Nat} {l e : V} {m n : Mg} (h : RsAt H xs ms) (hl : xs[k + 1]? = some l) (he : xs[k]? = some e) (hm : ms[k + 1]? = some m) (hn : ms[k]? = some n) : RsAt H (swp k xs l e) (swp k ms m n) :=
  (LsA.append (LsA.append (LsA.take k h) ⟨rs_at h hl hm, rs_at h he hn, trivial⟩) (LsA.drop (k + 2) h))
theorem MgsOk.perm {ms ns : List Mg} (p : ns.Perm ms) (h : MgsOk ms) : MgsOk ns := ⟨p.length_eq ▸ h.1, fun m hm => h.2 m (p.mem_iff.mp hm)⟩
section
variable {σ : L2.St} {H : Hp} {ta tb : TE} {K : PySem.W.Frag} {C CN CD : Addr} {xs ys : List V}
theorem ern_exch {E : L2.St → XK} {a : Addr} {k : Nat} {l e : V} {m n : Mg} {ms : List Mg} (ha : Ev ta σ H (.ref a)) (hb : Ev tb σ H (.int (k : Int))) (r1 : RnAt C H a xs) (s1 : RsAt H xs ms) (o1 : MgsOk ms) (hl : xs[k + 1]? = some l) (he : xs[k]? = some e) (hm : ms[k + 1]? = some m) (hn : ms[k]? = some n) (hs : shr m n = false) :
    EvRn C (tMethS C "exchanged" (spExch C CN CD) E ta (tCons tb tNil)) σ H (swp k xs l e) := fun H1 e1 Q q =>
  ha H1 e1 _ fun H2 e2 => by
    have k1 := r1.ex (e1.trans e2)
    obtain ⟨dx, t, g1, g2⟩ := id k1
    refine ⟨a, dx, _, rfl, g1, rn_lk (by decide +kernel), hb H2 (e1.trans e2) _ fun H3 e3 => ⟨a, k, xs, ms, rfl, k1.ex e3, s1.ex ((e1.trans e2).trans e3), o1, fun z => ?_, fun l' e' m' n' hl' he' hm' hn' => ?_⟩⟩
    · have := (List.getElem?_eq_some_iff.mp hl).1
      omega
    · rw [hl] at hl'
      rw [he] at he'
      rw [hm] at hm'
      rw [hn] at hn'
      cases hl'
      cases he'
      cases hm'
      cases hn'
      exact ⟨fun z => (by rw [hs] at z; cases z), fun _ r H4 hr e4 h4 => q r H4 (fresh_back (e2.trans e3) hr) ((e2.trans e3).trans e4) h4⟩
theorem ev_eqR2 {E : XK} {a b : Addr} {ms ns : List Mg} (ha : Ev ta σ H (.ref a)) (hb : Ev tb σ H (.ref b)) (r1 : RnAt C H a xs) (s1 : RsAt H xs ms) (o1 : MgsOk ms) (r2 : RnAt C H b ys) (s2 : RsAt H ys ns) (o2 : MgsOk ns) (hz : ms.Perm ns) : Ev (tOp (rOwnEq C (spRunEq C) E) ta tb) σ H (.bl true) := fun H1 e Q q =>
  ha H1 e _ fun H2 e2 => hb H2 (e.trans e2) _ fun H3 e3 => by
    have x3 := (e.trans e2).trans e3
    have k1 := r1.ex x3
    have k2 := r2.ex x3
    obtain ⟨dx, t, g1, g2⟩ := id k1
    obtain ⟨dy, u, f1, f2⟩ := id k2
    refine ⟨a, b, dx, dy, _, _, rfl, rfl, g1, f1, a, b, xs, ys, ms, ns, rfl, k1, s1.ex x3, o1.l, k2, s2.ex x3, o2.l, fun y hy H4 e4 => ?_⟩
    rw [hy.mpr hz]
    exact q H4 ((e2.trans e3).trans e4)
theorem rv_neDs {x y : V} {d : PyData} (hx : ∀ H1, Ex H H1 → Dp K H1 x d) (hy : ∀ H1, Ex H H1 → Dp K H1 y d) (hs : SeqAt.shaped d = true) : RV (rNeD K) x y H (.bl false) := fun H1 e Q q => ⟨d, d, hx H1 e, hy H1 e, hs, hs, by rw [SeqAt.eqv_refl d (SeqAt.canLay_of_shaped hs)]; exact q H1 (Ex.refl H1)⟩
theorem sh_none (i : Int) : SeqAt.shaped (.tuple [.str "none", .int i]) = true := by
  have hf : PyData.strOk ("none" : Str) = true := by decide +kernel
  simp [SeqAt.shaped, PyData.canLay0, PyData.canLayAll0, PyData.depth, PyData.depthAll, hf]
theorem sh_dep (i : Int) : SeqAt.shaped (.tuple [.str "dependent", .int i]) = true := by
  have hf : PyData.strOk ("dependent" : Str) = true := by decide +kernel
  simp [SeqAt.shaped, PyData.canLay0, PyData.canLayAll0, PyData.depth, PyData.depthAll, hf]
/-- any([part[0] in first for part in row[1]]) -/
theorem ev_any0 {j : Nat} {vs : List Nat} {x : V} {m : Mg} {l : Addr} {ns : List Int} (h : Ev ta σ H x) (hm : RmAt H x m) (hz : m.2.items.length ≤ 20) (hw : ∀ x, wipe ((wipe σ vs).set j (some x)) vs = wipe σ vs) (hj : ∀ x, ((wipe σ vs).set j (some x))[j]? = some (some x))
    (hb : ∀ x H1, Ex H H1 → Ev tb ((wipe σ vs).set j (some x)) H1 (.ref l)) (hl : H l = some (.lst (ns.map V.int))) :
    Ev (tCB (rAny K) (tCons (tLc (iTup K (tOp (rIxT K) ta (tC (.int 1)))) (gName j) tYes (tOp (rIn K false) (tOp (rIxT K) (tVar j) (tC (.int 0))) tb) vs) tNil)) σ H (.bl ((mach m).any fun k => decide (k ∈ ns))) := by
  obtain ⟨a, t, c, ps, rfl, h1, h2, h3⟩ := hm.mt
  have hlp := h3.length
  have hmz : (mach m).length ≤ 20 := by unfold mach; rw [List.length_map]; exact hz
  have e0 : ((mach m).any fun k => decide (k ∈ ns)) = ((mach m).map fun k => decide (k ∈ ns)).any id := by rw [List.any_map]; rfl
  rw [e0]
  refine ev_anyLs (el_lcTy (xs := ps) (ev_op h ev_c (rv_ixT (i := 1) (st_of h1) (atI_nat (j := 1) rfl))) (st_of h2) (by omega) hw (by rw [List.length_map, List.length_map]; exact hlp.symm) (fun i x y H2 e2 hx hy => ?_))
  rw [List.getElem?_map, List.getElem?_map] at hy
  cases e : (mach m)[i]? with
  | none => rw [e] at hy; cases hy
  | some k =>
    rw [e] at hy
    cases hy
    obtain ⟨b, k', x1, x2, x3, rfl, ek, hb'⟩ := LsA.pt h3 hx (y := .int k) (by rw [List.getElem?_map, e]; rfl)
    cases ek
    show Ev _ _ _ (.bl (decide (k ∈ ns)))
    rw [← inV_int]
    exact ev_op (ev_op (ev_var (hj _)) ev_c (rv_ixT (i := 0) (st_of (e2 _ _ hb')) (atI_nat (j := 0) rfl))) (hb _ H2 e2) (rv_isL (K := K) (sq_of (e2 _ _ hl)) rfl (flat_int _))
end
def spLaw (K : PySem.W.Frag) : Sp := fun vs H Q _ => ∃ (a : Addr) (ns : List Int), vs = [.ref a] ∧ SqL K H a (ns.map V.int) ∧ RetV (.bl true) H Q
def places (n : Nat) : List V := nums n ++ [.int (10 ^ 20)]
theorem place_of {n i : Nat} {x : V} (h : (places n)[i]? = some x) : ∃ k : Nat, x = .int (k : Int) := by
  rcases List.mem_append.mp (List.mem_of_getElem? h) with h | h
  · obtain ⟨k, _, rfl⟩ := List.mem_map.mp h
    exact ⟨k, rfl⟩
  · rw [List.mem_singleton.mp h]
    exact ⟨10 ^ 20, rfl⟩
section
variable {P : Program} {w : World} {K : PySem.W.Frag} {mg : Str → Option Value} {base : Heap} {C CN CD : Addr}
abbrev nsLaw : List Str := ["_law_script", "_law_rows_here", "_law_run", "_law_place", "_law_told", "_law_found", "_law_first", "_law_shared", "_law_due", "_law_part"]
theorem scLaw : FnScope nsLaw ["_law_script"] (defScope (topS 22)) := ⟨rfl, rfl, rfl, by decide +kernel, rfl, by decide +kernel, by decide +kernel⟩
theorem ok_law {f fx ge : Addr} {fd dx de : FuncData} (F : Fun K "law" "law" (topS 22) f fd) (L : LawT K mg) (T : RunT K mg) (R : RunO K mg C) (hlist : mg "list" = none) (GC : CalX P w K mg base CX0 1 "_law_cell_at" (spCellAt K)) (GR : CalX P w K mg base CX0 2 "_law_row" spRow) (GM : CalX P w K mg base CX0 1 "_law_meetings" spMeetM) (MR : MakX P w K mg base CX0 1 "Run" C (spRunInitA K C))
    (GL : CalX P w K mg base CX0 5 "_law_rows" (spLRows C)) (GT : CalX P w K mg base CX0 6 "_law_tried" (spTried C))
    (MX : Meth K C "exchanged" fx) (FX : FnOk P w K mg base (L2.CX P w) 5 fx dx ["self", "k"] (spExch C CN CD)) (BX : Binds K dx ["self", "k"] [])
    (ME : EqM K C ge) (FE : FnOk P w K mg base CX0 3 ge de ["self", "other"] (spRunEq C)) (BE : Binds K de ["self", "other"] []) :
    FnOk P w K mg base CX0 7 f fd ["_law_script"] (spLaw K) := by
  refine F.ok (k := 6) scLaw (fun vs H Q E h => ?_) (fun cdv A outer s H vs Q E hr h => ?_)
  · obtain ⟨a, ns, rfl, _⟩ := h
    rfl
  · obtain ⟨a, ns, rfl, hS, q⟩ := h
    refine ⟨_, pss_cons (ps_set (i := 1) scLaw.nd rfl (Or.inl rfl) (pe_cx (E := fun _ => E0) GM hr (by omega) (by rfl) at0 (pa_cons (pe_cx (E := fun _ => E0) GR hr (by omega) (by rfl) at0 (pa_cons (pe_cx (E := fun _ => E0) GC hr (by omega) (by rfl) at0 (pa_cons (pv 0) (pa_cons pe_int pa_nil))) (pa_cons pe_int pa_nil))) pa_nil)))
      (pss_cons (ps_set (i := 2) scLaw.nd rfl (Or.inl rfl) (pe_mx (E := E0) MR hr (by omega) (by rfl) pass0 (pa_cons (pv 1) pa_nil)))
      (pss_cons (ps_for PassesOwn.never rfl (pi_list (pe_op op_cat (pe_listR rfl (pa_cons (pe_op op_add (pe_callB call_len_seq (by rfl) L.len PySem.boot_len (pa_cons (pv 1) pa_nil)) pe_int) pa_nil) (by rfl) hlist (by decide +kernel) (by rfl) L.range) (pe_lst (pa_cons (pe_op op_pow pe_int pe_int) pa_nil)))) (pg_name (i := 3) scLaw.nd rfl (Or.inl rfl))
        (pss_cons (ps_asg (pe_cx (E := fun _ => E0) GT hr (by omega) (by rfl) at0 (pa_cons (pv 2) (pa_cons (pv 3) pa_nil))) (pg_tup rfl (pgs_cons (pg_name (i := 4) scLaw.nd rfl (.inl rfl)) (pgs_cons (pg_name (i := 5) scLaw.nd rfl (.inl rfl)) pgs_nil))))
        (pss_cons (ps_if (pt_cmpR op_ge (pe_op op_add (pv 3) pe_int) (pe_callB call_len_seq (by rfl) L.len PySem.boot_len (pa_cons (pv 1) pa_nil)) (nomark _))
          (pss_cons (ps_if (pt_cmpR (op_neD hr.units) (pe_tup (pa_cons (pv 4) (pa_cons (pv 5) pa_nil))) (pe_tup (pa_cons pe_str (pa_cons (pe_op op_add (pv 3) pe_int) pa_nil))) (nomark _)) (pss_one (ps_ret pe_bl)) pss_nil) (pss_one ps_continue)) pss_nil)
        (pss_cons (ps_set (i := 6) scLaw.nd rfl (Or.inr rfl) (pe_lc (own := [("_law_part", 9)]) (g := gName 9) (tt := tYes) (te := tOp (rIxT K) (tVar 9) (tC (.int 0))) rfl scLaw.nd (pi_tup (pe_ix ix_tup (pe_ix ix_list (pv 1) (pv 3) (fun _ _ => rfl)) pe_int (fun _ _ => rfl))) (blkOk_by (own := [("_law_part", 9)]) (N := nsLaw) (sc := defScope (topS 22)) (by decide +kernel))
            (fun _ _ _ _ _ => pg_name (i := 9) scLaw.nd rfl (Or.inl rfl)) (fun _ _ _ _ _ => pts_nil) (fun _ _ _ _ _ => pe_ix ix_tup (pv 9) pe_int (fun _ _ => rfl))))
        (pss_cons (ps_set (i := 7) scLaw.nd rfl (Or.inl rfl) (pe_callB (cr_any rfl) (by rfl) T.any (by decide +kernel) (pa_cons (pe_lc (own := [("_law_part", 9)]) (g := gName 9) (tt := tYes) (te := tOp (rIn K false) (tOp (rIxT K) (tVar 9) (tC (.int 0))) (tVar 6)) rfl scLaw.nd (pi_tup (pe_ix ix_tup (pe_ix ix_list (pv 1) (pe_op op_add (pv 3) pe_int) (fun _ _ => rfl)) pe_int (fun _ _ => rfl))) (blkOk_by (own := [("_law_part", 9)]) (N := nsLaw) (sc := defScope (topS 22)) (by decide +kernel))
            (fun _ _ _ _ _ => pg_name (i := 9) scLaw.nd rfl (Or.inl rfl)) (fun _ _ _ _ _ => pts_nil) (fun _ _ _ _ _ => pe_cmpR op_in_seq (pe_ix ix_tup (pv 9) pe_int (fun _ _ => rfl)) (pv 6) (by rfl))) pa_nil)))
        (pss_cons (ps_if (PW.pt (pw_and (pt_val (pv 7)) (pw_and1 (pt_cmpR (op_neD hr.units) (pe_tup (pa_cons (pv 4) (pa_cons (pv 5) pa_nil))) (pe_tup (pa_cons pe_str (pa_cons (pv 3) pa_nil))) (nomark _))))) (pss_one (ps_ret pe_bl)) pss_nil)
        (pss_one (ps_if (pt_not (pt_val (pv 7)))
          (pss_cons (ps_set (i := 8) scLaw.nd rfl (Or.inl rfl) (pe_op op_cat (pe_op op_cat (pe_slice sl_list (pv 1) po_none (po_some (pv 3))) (pe_lst (pa_cons (pe_ix ix_list (pv 1) (pe_op op_add (pv 3) pe_int) (fun _ _ => rfl)) (pa_cons (pe_ix ix_list (pv 1) (pv 3) (fun _ _ => rfl)) pa_nil)))) (pe_slice sl_list (pv 1) (po_some (pe_op op_add (pv 3) pe_int)) po_none)))
          (pss_cons (ps_if (PW.pt (pw_or (pt_cmpR op_ne (pv 4) pe_str (nomark _)) (pw_or (pt_cmpR (op_neSame hr.units0) (pe_cx (E := fun _ => E0) GL hr (by omega) (by rfl) at0 (pa_cons (pv 5) pa_nil)) (pv 8) (nomark _))
              (pw_or1 (pt_not (pt_cmpR (op_ownEq (E := E0) ME FE (hr.mono (by omega)) BE (fun σ => at0 (E := fun _ => E0) σ)) (pv 5) (pv 2) (nomark _))))))) (pss_one (ps_ret pe_bl)) pss_nil)
          (pss_one (ps_if (pt_cmpR (op_neSame hr.units0) (pe_cx (E := fun _ => E0) GL hr (by omega) (by rfl) at0 (pa_cons (pe_methS (E := WE (fun _ _ _ _ => False)) (pv 5) R.cl MX FX (hr.mono (by omega)) BX (fun σ => passAt takesF σ) (pa_cons (pv 3) pa_nil)) pa_nil)) (pv 1) (nomark _)) (pss_one (ps_ret pe_bl)) pss_nil)))) pss_nil)))))))) 
      (pss_one (ps_ret (pe_cmpR (op_eqV hr.units) (pe_cx (E := fun _ => E0) GL hr (by omega) (by rfl) at0 (pa_cons (pv 2) pa_nil)) (pv 1) (nomark _)))))), ?_⟩
    refine ⟨_, rfl, a, ns, 0, rfl, hS, fun c H1 e1 => ⟨c, 20, rfl, by decide, fun row hrow hok rl H2 hrl e2 h2 => ⟨rl, row, rfl, h2, hrow, hok, fun p H3 xs ms hp e3 h3 hrw hms => ?_⟩⟩⟩
    have x3 := (e1.trans e2).trans e3
    refine q_asgRn (xs := xs) (ern_make (eq_v (ev_var rfl) (.inl (sq_of h3)))) (fun x H4 hx e4 hrn => ?_)
    have hl4 := e4 _ _ h3
    have hw4 := RsAt.ex e4 hrw
    have hten := hms.1
    have hlen := LsA.length hw4
    have x4 := x3.trans e4
    have hnum : (nums (xs.length + 2)).length = xs.length + 2 := by unfold nums; rw [List.length_map, List.length_range]
    refine q_forNLn (xs := places (xs.length + 2)) (el_cat (el_listR (n := xs.length + 2) (ea_cons (ev_is (ev_op (x := .int (xs.length : Int)) (ev_len (K := K) (ev_var rfl) (sq_of hl4)) ev_c rv_I0) (congrArg V.int (by omega))) ea_nil) (by omega)) (el_lst (ea_cons (ev_op (x := .int 10) (y := .int 20) ev_c ev_c (rv_I (C := CPow) ⟨by decide, by decide, by decide⟩)) ea_nil) (by show 1 ≤ 100000; decide)) (by rw [hnum]; show _ + 1 ≤ 100000; omega))
      (fun l i σ' H' => ∃ (v3 v4 v5 v6 v7 v8 v9 : Option V), σ' = [some (.ref a), some (.ref p), some (.ref x), v3, v4, v5, v6, v7, v8, v9] ∧ Ex H4 H' ∧ H' l = some (.lst (places (xs.length + 2))))
      (fun l H5 hl e5 h5 => ⟨_, _, _, _, _, _, _, rfl, e5, h5⟩) (fun l i σ' H' _ ⟨_, _, _, _, _, _, _, _, _, h5⟩ => sq_of h5) (fun l i y σ' H' hy ⟨v3, v4, v5, v6, v7, v8, v9, hσ, he, hl⟩ => ?_) (fun l σ' H' ⟨v3, v4, v5, v6, v7, v8, v9, hσ, he, hl⟩ => ?_)
    · subst hσ
      obtain ⟨k, rfl⟩ := place_of hy
      have hl5 := he _ _ hl4
      have hw5 := RsAt.ex he hw4
      have hrn5 := hrn.ex he
      refine ⟨_, rfl, _, rfl, x, k, xs, ms, rfl, hrn5, hw5, hms, fun hle t H9 ht e9 h9 => ⟨t, _, rfl, st_of h9, rfl, _, _, rfl, _, _, rfl, rfl, ?_⟩, fun l' e' m n hl' he' hm hn => ⟨fun hsh t H9 ht e9 h9 => ⟨t, _, rfl, st_of h9, rfl, _, _, rfl, _, _, rfl, rfl, ?_⟩, fun hsh t r H9 ht e9 h9 hr9 => ⟨t, _, rfl, st_of h9, rfl, _, _, rfl, _, _, rfl, rfl, ?_⟩⟩⟩
      · have hl9 := e9 _ _ hl5
        refine q_when (σ := [some (.ref a), some (.ref p), some (.ref x), some (.int (k : Int)), some (.str "none"), some (.int ((k : Int) + 1)), v6, v7, v8, v9]) (b := decide ((xs.length : Int) ≤ (k : Int) + 1)) (et_test (ev_op (x := .int ((k : Int) + 1)) (ev_op (x := .int (k : Int)) (ev_var rfl) ev_c rv_I0) (ev_len (K := K) (ev_var rfl) (sq_of hl9)) rv_I0)) (fun hb H10 e10 => ?_) (fun hb => by
          have := of_decide_eq_false hb
          omega)
        refine q_when (b := false) (et_test (ev_opUU (eu_tup (ea_cons (ev_var rfl) (ea_cons (ev_var rfl) ea_nil)) (by show 2 ≤ 100000; decide)) (eu_tup (ea_cons ev_c (ea_cons (ev_op (x := .int (k : Int)) (ev_var rfl) ev_c rv_I0) ea_nil)) (by show 2 ≤ 100000; decide)) (fun p q H1 hp hq e => rv_neDs (d := .tuple [.str "none", .int ((k : Int) + 1)]) (fun H4 e4 => .tup (st_of (e4 _ _ hp)) (.cons (.str _) (.cons (.int _) .nil))) (fun H4 e4 => .tup (st_of (e4 _ _ hq)) (.cons (.str _) (.cons (.int _) .nil))) (sh_none _)))) (fun hb => nomatch hb) (fun _ H11 e11 => ⟨_, _, _, _, _, _, _, rfl, (he.trans e9).trans (e10.trans e11), (e9.trans (e10.trans e11)) _ _ hl⟩)
      · have hk1 := (List.getElem?_eq_some_iff.mp hl').1
        have hl9 := e9 _ _ hl5
        have hw9 := RsAt.ex e9 hw5
        refine q_when (σ := [some (.ref a), some (.ref p), some (.ref x), some (.int (k : Int)), some (.str "dependent"), some (.int (k : Int)), v6, v7, v8, v9]) (b := decide ((xs.length : Int) ≤ (k : Int) + 1)) (et_test (ev_op (x := .int ((k : Int) + 1)) (ev_op (x := .int (k : Int)) (ev_var rfl) ev_c rv_I0) (ev_len (K := K) (ev_var rfl) (sq_of hl9)) rv_I0)) (fun hb => by
          have := of_decide_eq_true hb
          omega) (fun hb H10 e10 => ?_)
        have hl10 := e10 _ _ hl9
        have hw10 := RsAt.ex e10 hw9
        refine q_asgL (xs := (mach n).map V.int) (el_mach0 (ev_op (ev_var rfl) (ev_var rfl) (rv_ixL (sq_of hl10) (atI_nat he'))) (rs_at hw10 he' hn) (hms.2 n (List.mem_of_getElem? hn)) (fun _ => rfl) (fun _ => rfl)) (fun lf H11 hlf e11 h11 => ?_)
        have hl11 := e11 _ _ hl10
        have hw11 := RsAt.ex e11 hw10
        refine q_asg (v := .bl (shr m n)) (ev_any0 (ev_op (ev_var rfl) (ev_is (ev_op (x := .int (k : Int)) (ev_var rfl) ev_c rv_I0) (congrArg V.int (show (k : Int) + 1 = ((k + 1 : Nat) : Int) by omega))) (rv_ixL (sq_of hl11) (atI_nat hl'))) (rs_at hw11 hl' hm) (hms.2 m (List.mem_of_getElem? hm)) (fun _ => rfl) (fun _ => rfl) (fun _ _ _ => ev_var rfl) h11) (fun H12 e12 => ?_)
        rw [hsh]
        refine q_when (b := true && false) (et_and (a := true) (b := false) (et_B (ev_var rfl)) (fun _ => et_test (ev_opUU (eu_tup (ea_cons (ev_var rfl) (ea_cons (ev_var rfl) ea_nil)) (by show 2 ≤ 100000; decide)) (eu_tup (ea_cons ev_c (ea_cons (ev_var rfl) ea_nil)) (by show 2 ≤ 100000; decide)) (fun p q H1 hp hq e => rv_neDs (d := .tuple [.str "dependent", .int (k : Int)]) (fun H4 e4 => .tup (st_of (e4 _ _ hp)) (.cons (.str _) (.cons (.int _) .nil))) (fun H4 e4 => .tup (st_of (e4 _ _ hq)) (.cons (.str _) (.cons (.int _) .nil))) (sh_dep _))))) (fun hb => nomatch hb) (fun _ H13 e13 => ?_)
        have y13 := ((e9.trans e10).trans (e11.trans e12)).trans e13
        exact s_when (b := false) (et_is (et_not (et_B (ev_var rfl))) rfl) (fun hb => nomatch hb) (fun _ H14 e14 => ⟨_, _, _, _, _, _, _, rfl, he.trans (y13.trans e14), (y13.trans e14) _ _ hl⟩)
      · have hk1 := (List.getElem?_eq_some_iff.mp hl').1
        have hl9 := e9 _ _ hl5
        have hw9 := RsAt.ex e9 hw5
        refine q_when (σ := [some (.ref a), some (.ref p), some (.ref x), some (.int (k : Int)), some (.str ""), some (.ref r), v6, v7, v8, v9]) (b := decide ((xs.length : Int) ≤ (k : Int) + 1)) (et_test (ev_op (x := .int ((k : Int) + 1)) (ev_op (x := .int (k : Int)) (ev_var rfl) ev_c rv_I0) (ev_len (K := K) (ev_var rfl) (sq_of hl9)) rv_I0)) (fun hb => by
          have := of_decide_eq_true hb
          omega) (fun hb H10 e10 => ?_)
        have hl10 := e10 _ _ hl9
        have hw10 := RsAt.ex e10 hw9
        refine q_asgL (xs := (mach n).map V.int) (el_mach0 (ev_op (ev_var rfl) (ev_var rfl) (rv_ixL (sq_of hl10) (atI_nat he'))) (rs_at hw10 he' hn) (hms.2 n (List.mem_of_getElem? hn)) (fun _ => rfl) (fun _ => rfl)) (fun lf H11 hlf e11 h11 => ?_)
        have hl11 := e11 _ _ hl10
        have hw11 := RsAt.ex e11 hw10
        refine q_asg (v := .bl (shr m n)) (ev_any0 (ev_op (ev_var rfl) (ev_is (ev_op (x := .int (k : Int)) (ev_var rfl) ev_c rv_I0) (congrArg V.int (show (k : Int) + 1 = ((k + 1 : Nat) : Int) by omega))) (rv_ixL (sq_of hl11) (atI_nat hl'))) (rs_at hw11 hl' hm) (hms.2 m (List.mem_of_getElem? hm)) (fun _ => rfl) (fun _ => rfl) (fun _ _ _ => ev_var rfl) h11) (fun H12 e12 => ?_)
        rw [hsh]
        refine q_when (b := false && false) (et_and (a := false) (b := false) (et_B (ev_var rfl)) (fun z => nomatch z)) (fun hb => nomatch hb) (fun _ H13 e13 => ?_)
        have y13 := ((e9.trans e10).trans (e11.trans e12)).trans e13
        refine s_when (b := true) (et_is (et_not (et_B (ev_var rfl))) rfl) (fun _ H14 e14 => ?_) (fun hb => nomatch hb)
        have y14 := y13.trans e14
        have z14 := ((e10.trans (e11.trans e12)).trans e13).trans e14
        have hl14 := y14 _ _ hl5
        have hw14 := RsAt.ex y14 hw5
        have hr14 := hr9.ex z14
        have hs14 := rs_swp hw14 hl' he' hm hn
        have hsl := swp_len he' hl'
        have hpm := swp_perm hn hm
        have eI : ∀ {σ : L2.St} {H9 : Hp} {i : Nat} {v : V} {tb : TE}, σ[1]? = some (some (.ref p)) → Ex H14 H9 → xs[i]? = some v → Ev tb σ H9 (.int (i : Int)) → Ev (tOp (rIxL K) (tVar 1) tb) σ H9 v := fun hσ e hv hb => ev_op (ev_var hσ) hb (rv_ixL (sq_of (e _ _ hl14)) (atI_nat hv))
        refine q_asgL (xs := swp k xs l' e') (el_cat (el_cat (cut_take (xs := xs) (k := k) ▸ el_sl (K := K) (ev_var rfl) eo_none (eo_some (ev_var rfl)) (sq_of hl14)) (el_lst (ea_cons (eI rfl (Ex.refl _) hl' (ev_is (ev_op (x := .int (k : Int)) (ev_var rfl) ev_c rv_I0) (congrArg V.int (show (k : Int) + 1 = ((k + 1 : Nat) : Int) by omega)))) (ea_cons (eI rfl (Ex.refl _) he' (ev_var rfl)) ea_nil)) (by show 2 ≤ 100000; decide)) (by rw [List.length_take]; show _ + 2 ≤ 100000; omega))
          (cut_drop (xs := xs) (k := k + 2) ▸ el_sl (K := K) (ev_var rfl) (eo_some (ev_is (ev_op (x := .int (k : Int)) (ev_var rfl) ev_c rv_I0) (congrArg V.int (show (k : Int) + 2 = ((k + 2 : Nat) : Int) by omega)))) eo_none (sq_of hl14)) (by rw [List.length_append, List.length_take, List.length_drop]; show _ + 2 + _ ≤ 100000; omega)) (fun ld H15 hld e15 h15 => ?_)
        have hr15 := hr14.ex e15
        have hs15 := RsAt.ex e15 hs14
        refine q_when (b := false) (et_or (a := false) (b := false) (et_is (et_test (ev_op (ev_var rfl) ev_c (rv_ne rfl))) (by rw [decide_eq_true rfl]; rfl))
          (fun _ => et_or (a := false) (b := false) (et_is (et_test (ev_opL1 (xs := swp k xs l' e') (el_rows (ev_var rfl) hr15 (by omega)) (fun H16 e16 => ev_var rfl) (fun r H16 hr16 e16 => rv_neSame (sq_of hr16) (sq_of (e16 _ _ h15)) (rs_refs hs15)))) rfl)
            (fun _ => et_is (et_not (et_test (ev_eqR2 (ev_var rfl) (ev_var rfl) hr15 hs15 (hms.perm hpm) ((hrn5.ex y14).ex e15) (RsAt.ex e15 hw14) hms hpm))) rfl))) (fun hb => nomatch hb) (fun _ H16 e16 => ?_)
        refine s_when (b := false) (et_test (ev_opL1 (xs := xs) (el_rowsRn (swp_back he' hl' ▸ ern_exch (ev_var rfl) (ev_var rfl) (hr15.ex e16) (RsAt.ex e16 hs15) (hms.perm hpm) (swp_k1 hl') (swp_k hl') (swp_k1 hm) (swp_k hm) (shr_sym hsh)) (by omega)) (fun H17 e17 => ev_var rfl) (fun r H17 hr17 e17 => rv_neSame (sq_of hr17) (sq_of (((e15.trans e16).trans e17) _ _ hl14)) (rs_refs hw14)))) (fun hb => nomatch hb) (fun _ H17 e17 => ⟨_, _, _, _, _, _, _, rfl, he.trans ((y14.trans e15).trans (e16.trans e17)), ((y14.trans e15).trans (e16.trans e17)) _ _ hl⟩)
    · subst hσ
      have hl5 := he _ _ hl4
      have hw5 := RsAt.ex he hw4
      exact s_ret (v := .bl true) (ev_opL1 (xs := xs) (el_rows (ev_var rfl) (hrn.ex he) (by omega)) (fun H7 e7 => ev_var rfl) (fun r H7 hr7 e7 => rv_eqRefs hr7 (e7 _ _ hl5) (rs_refs hw5))) (fun H7 e7 => q H7 ((x4.trans he).trans e7))
end
end Fs

set_option Elab.async false
set_option linter.all false
set_option maxRecDepth 100000
set_option maxHeartbeats 8000000
namespace Fs
open PySem PySem.Spec PyProof.Rows L2 Evl FsE FsC FsR FsK
theorem exm_b {K : PySem.W.Frag} {S D : Addr} {v : Bool} (h1 : PySem.W.subIn K (.ref D) (.type "BaseException") = some true) (h2 : PySem.W.isClsIn K D = true) (h3 : PySem.W.typeIn K (.ref D) = some (.type "type")) (h4 : PySem.W.subIn K (.ref S) (.ref D) = some v) : PySem.W.exmOne K (.ref S) (.ref D) = some v := by
  unfold PySem.W.exmOne PySem.W.kitCls
  have h2' : (PySem.W.clsIn K D).isSome = true := h2
  simp only [h1, h2', h3, h4, beq_self_eq_true, Bool.and_self, if_true]
theorem all_mk {P : Program} {w : World} {K : PySem.W.Frag} {h : Heap} {mg : Str → Option Value} {fa : Addr} (X : K.In h) (G : h.Ns mainGlobals mg) (hfa : mg "law" = some (.ref fa))
    {fisint : Addr} {odisint anisint : Option Addr} {slisint : Array (Option Value)} {ocisint kVisint dcisint pmisint cdisint ctisint : Value}
    {findex : Addr} {odindex anindex : Option Addr} {slindex : Array (Option Value)} {ocindex kVindex dcindex pmindex cdindex ctindex : Value}
    {fmach : Addr} {odmach anmach : Option Addr} {slmach : Array (Option Value)} {ocmach kVmach dcmach pmmach cdmach ctmach : Value}
    {ftakes : Addr} {odtakes antakes : Option Addr} {sltakes : Array (Option Value)} {octakes kVtakes dctakes pmtakes cdtakes cttakes : Value}
    {forder : Addr} {odorder anorder : Option Addr} {slorder : Array (Option Value)} {ocorder kVorder dcorder pmorder cdorder ctorder : Value}
    {fcmpb : Addr} {odcmpb ancmpb : Option Addr} {slcmpb : Array (Option Value)} {occmpb kVcmpb dccmpb pmcmpb cdcmpb ctcmpb : Value}
    {fcellat : Addr} {odcellat ancellat : Option Addr} {slcellat : Array (Option Value)} {occellat kVcellat dccellat pmcellat cdcellat ctcellat : Value}
    {fmixed : Addr} {odmixed anmixed : Option Addr} {slmixed : Array (Option Value)} {ocmixed kVmixed dcmixed pmmixed cdmixed ctmixed : Value}
    {frow : Addr} {odrow anrow : Option Addr} {slrow : Array (Option Value)} {ocrow kVrow dcrow pmrow cdrow ctrow : Value}
    {fmee : Addr} {odmee anmee : Option Addr} {slmee : Array (Option Value)} {ocmee kVmee dcmee pmmee cdmee ctmee : Value}
    {flrows : Addr} {odlrows anlrows : Option Addr} {sllrows : Array (Option Value)} {oclrows kVlrows dclrows pmlrows cdlrows ctlrows : Value}
    {ftried : Addr} {odtried antried : Option Addr} {sltried : Array (Option Value)} {octried kVtried dctried pmtried cdtried cttried : Value}
    {flaw : Addr} {odlaw anlaw : Option Addr} {sllaw : Array (Option Value)} {oclaw kVlaw dclaw pmlaw cdlaw ctlaw : Value}
    {C : Addr}
    {finit : Addr} {odinit aninit : Option Addr} {slinit : Array (Option Value)} {ocinit kVinit dcinit pminit cdinit ctinit : Value}
    {flen : Addr} {odlen anlen : Option Addr} {sllen : Array (Option Value)} {oclen kVlen dclen pmlen cdlen ctlen : Value}
    {fget : Addr} {odget anget : Option Addr} {slget : Array (Option Value)} {ocget kVget dcget pmget cdget ctget : Value}
    {feq : Addr} {odeq aneq : Option Addr} {sleq : Array (Option Value)} {oceq kVeq dceq pmeq cdeq cteq : Value}
    {fexch : Addr} {odexch anexch : Option Addr} {slexch : Array (Option Value)} {ocexch kVexch dcexch pmexch cdexch ctexch : Value}
    {cS : Addr}
    {C0 N0 : Addr} {nm0 q0 : Str} {bs0 : List Value} {sn0 : List Str} {sub0 : List Value} {ab0 : Bool} {col0 : Option Bool} {dd0 : Option Addr} {m0_0 m0_1 m0_2 m0_3 m0_5 : Option Value}
    {fI0 cda0 cc0 : Addr} {ocB0 kVB0 dcB0 pmB0 ctB0 ccl0 clB0 : Value} {odB0 anB0 cdd0 cld0 : Option Addr} {slB0 ccs0 csl0 : Array (Option Value)} {vsB0 : Array Value} {fileB0 : Str} {tfB0 : Tok} {zM0 : Str} {b0_1 b0_2 q0_0 r0_0 r0_1 r0_2 r0_3 r0_4 r0_5 r0_6 r0_7 r0_8 : Pos}
    {C1 N1 : Addr} {nm1 q1 : Str} {bs1 : List Value} {sn1 : List Str} {sub1 : List Value} {ab1 : Bool} {col1 : Option Bool} {dd1 : Option Addr} {m1_0 m1_1 m1_2 m1_3 m1_5 : Option Value}
    {fI1 cda1 cc1 : Addr} {ocB1 kVB1 dcB1 pmB1 ctB1 ccl1 clB1 : Value} {odB1 anB1 cdd1 cld1 : Option Addr} {slB1 ccs1 csl1 : Array (Option Value)} {vsB1 : Array Value} {fileB1 : Str} {tfB1 : Tok} {zM1 : Str} {b1_1 b1_2 q1_0 r1_0 r1_1 r1_2 r1_3 r1_4 r1_5 r1_6 r1_7 r1_8 : Pos}
    (aisint : PySem.W.nsIn K mainGlobals "is_int" = some (some (.ref fisint)))
    (lisint : K.lookup fisint = some ⟨ocisint, odisint, .func (PySem.W.fnOf "is_int" "is_int" (defArgs (topS 2)) (defBody (topS 2)) (defScope (topS 2)) .none kVisint dcisint pmisint anisint cdisint ctisint), slisint⟩)
    (cisint : PySem.W.codeIn K cdisint "is_int" = true)
    (kisint : PySem.W.keepIn K (.ref fisint) = true)
    (aindex : PySem.W.nsIn K mainGlobals "is_index" = some (some (.ref findex)))
    (lindex : K.lookup findex = some ⟨ocindex, odindex, .func (PySem.W.fnOf "is_index" "is_index" (defArgs (topS 3)) (defBody (topS 3)) (defScope (topS 3)) .none kVindex dcindex pmindex anindex cdindex ctindex), slindex⟩)
    (cindex : PySem.W.codeIn K cdindex "is_index" = true)
    (kindex : PySem.W.keepIn K (.ref findex) = true)
    (amach : PySem.W.nsIn K mainGlobals "machines_in" = some (some (.ref fmach)))
    (lmach : K.lookup fmach = some ⟨ocmach, odmach, .func (PySem.W.fnOf "machines_in" "machines_in" (defArgs (topS 9)) (defBody (topS 9)) (defScope (topS 9)) .none kVmach dcmach pmmach anmach cdmach ctmach), slmach⟩)
    (cmach : PySem.W.codeIn K cdmach "machines_in" = true)
    (kmach : PySem.W.keepIn K (.ref fmach) = true)
    (atakes : PySem.W.nsIn K mainGlobals "takes_any" = some (some (.ref ftakes)))
    (ltakes : K.lookup ftakes = some ⟨octakes, odtakes, .func (PySem.W.fnOf "takes_any" "takes_any" (defArgs (topS 12)) (defBody (topS 12)) (defScope (topS 12)) .none kVtakes dctakes pmtakes antakes cdtakes cttakes), sltakes⟩)
    (ctakes : PySem.W.codeIn K cdtakes "takes_any" = true)
    (ktakes : PySem.W.keepIn K (.ref ftakes) = true)
    (aorder : PySem.W.nsIn K mainGlobals "order_free" = some (some (.ref forder)))
    (lorder : K.lookup forder = some ⟨ocorder, odorder, .func (PySem.W.fnOf "order_free" "order_free" (defArgs (topS 13)) (defBody (topS 13)) (defScope (topS 13)) .none kVorder dcorder pmorder anorder cdorder ctorder), slorder⟩)
    (corder : PySem.W.codeIn K cdorder "order_free" = true)
    (korder : PySem.W.keepIn K (.ref forder) = true)
    (acmpb : PySem.W.nsIn K mainGlobals "comparable" = some (some (.ref fcmpb)))
    (lcmpb : K.lookup fcmpb = some ⟨occmpb, odcmpb, .func (PySem.W.fnOf "comparable" "comparable" (defArgs (topS 14)) (defBody (topS 14)) (defScope (topS 14)) .none kVcmpb dccmpb pmcmpb ancmpb cdcmpb ctcmpb), slcmpb⟩)
    (ccmpb : PySem.W.codeIn K cdcmpb "comparable" = true)
    (kcmpb : PySem.W.keepIn K (.ref fcmpb) = true)
    (acellat : PySem.W.nsIn K mainGlobals "_law_cell_at" = some (some (.ref fcellat)))
    (lcellat : K.lookup fcellat = some ⟨occellat, odcellat, .func (PySem.W.fnOf "_law_cell_at" "_law_cell_at" (defArgs (topS 16)) (defBody (topS 16)) (defScope (topS 16)) .none kVcellat dccellat pmcellat ancellat cdcellat ctcellat), slcellat⟩)
    (ccellat : PySem.W.codeIn K cdcellat "_law_cell_at" = true)
    (kcellat : PySem.W.keepIn K (.ref fcellat) = true)
    (amixed : PySem.W.nsIn K mainGlobals "_law_mixed" = some (some (.ref fmixed)))
    (lmixed : K.lookup fmixed = some ⟨ocmixed, odmixed, .func (PySem.W.fnOf "_law_mixed" "_law_mixed" (defArgs (topS 17)) (defBody (topS 17)) (defScope (topS 17)) .none kVmixed dcmixed pmmixed anmixed cdmixed ctmixed), slmixed⟩)
    (cmixed : PySem.W.codeIn K cdmixed "_law_mixed" = true)
    (kmixed : PySem.W.keepIn K (.ref fmixed) = true)
    (arow : PySem.W.nsIn K mainGlobals "_law_row" = some (some (.ref frow)))
    (lrow : K.lookup frow = some ⟨ocrow, odrow, .func (PySem.W.fnOf "_law_row" "_law_row" (defArgs (topS 18)) (defBody (topS 18)) (defScope (topS 18)) .none kVrow dcrow pmrow anrow cdrow ctrow), slrow⟩)
    (crow : PySem.W.codeIn K cdrow "_law_row" = true)
    (krow : PySem.W.keepIn K (.ref frow) = true)
    (amee : PySem.W.nsIn K mainGlobals "_law_meetings" = some (some (.ref fmee)))
    (lmee : K.lookup fmee = some ⟨ocmee, odmee, .func (PySem.W.fnOf "_law_meetings" "_law_meetings" (defArgs (topS 19)) (defBody (topS 19)) (defScope (topS 19)) .none kVmee dcmee pmmee anmee cdmee ctmee), slmee⟩)
    (cmee : PySem.W.codeIn K cdmee "_law_meetings" = true)
    (kmee : PySem.W.keepIn K (.ref fmee) = true)
    (alrows : PySem.W.nsIn K mainGlobals "_law_rows" = some (some (.ref flrows)))
    (llrows : K.lookup flrows = some ⟨oclrows, odlrows, .func (PySem.W.fnOf "_law_rows" "_law_rows" (defArgs (topS 20)) (defBody (topS 20)) (defScope (topS 20)) .none kVlrows dclrows pmlrows anlrows cdlrows ctlrows), sllrows⟩)
    (clrows : PySem.W.codeIn K cdlrows "_law_rows" = true)
    (klrows : PySem.W.keepIn K (.ref flrows) = true)
    (atried : PySem.W.nsIn K mainGlobals "_law_tried" = some (some (.ref ftried)))
    (ltried : K.lookup ftried = some ⟨octried, odtried, .func (PySem.W.fnOf "_law_tried" "_law_tried" (defArgs (topS 21)) (defBody (topS 21)) (defScope (topS 21)) .none kVtried dctried pmtried antried cdtried cttried), sltried⟩)
    (ctried : PySem.W.codeIn K cdtried "_law_tried" = true)
    (ktried : PySem.W.keepIn K (.ref ftried) = true)
    (alaw : PySem.W.nsIn K mainGlobals "law" = some (some (.ref flaw)))
    (llaw : K.lookup flaw = some ⟨oclaw, odlaw, .func (PySem.W.fnOf "law" "law" (defArgs (topS 22)) (defBody (topS 22)) (defScope (topS 22)) .none kVlaw dclaw pmlaw anlaw cdlaw ctlaw), sllaw⟩)
    (claw : PySem.W.codeIn K cdlaw "law" = true)
    (klaw : PySem.W.keepIn K (.ref flaw) = true)
    (aC : PySem.W.nsIn K mainGlobals "Run" = some (some (.ref C)))
    (pg : PySem.W.plainGet K C Str.empty = true)
    (hd : PySem.W.hasDictIn K C = true)
    (po : PySem.W.plainOver K C = true)
    (sa : PySem.W.findIn K (.ref C) "__setattr__" = some (some (.builtin "object.__setattr__")))
    (nR : PySem.W.findIn K (.ref C) "rows" = some none)
    (mk : PySem.W.makesIn K C = true)
    (kc : PySem.W.keepIn K (.ref C) = true)
    (minit : PySem.W.findIn K (.ref C) "__init__" = some (some (.ref finit)))
    (iinit : PySem.W.isFn K (.ref finit) = true)
    (linit : K.lookup finit = some ⟨ocinit, odinit, .func (PySem.W.fnOf "__init__" "Run.__init__" (defArgs (inClass (topS 11) 0)) (defBody (inClass (topS 11) 0)) (defScope (inClass (topS 11) 0)) .none kVinit dcinit pminit aninit cdinit ctinit), slinit⟩)
    (cinit : PySem.W.codeIn K cdinit "Run.__init__" = true)
    (kinit : PySem.W.keepIn K (.ref finit) = true)
    (mlen : PySem.W.findIn K (.ref C) "__len__" = some (some (.ref flen)))
    (ilen : PySem.W.isFn K (.ref flen) = true)
    (llen : K.lookup flen = some ⟨oclen, odlen, .func (PySem.W.fnOf "__len__" "Run.__len__" (defArgs (inClass (topS 11) 2)) (defBody (inClass (topS 11) 2)) (defScope (inClass (topS 11) 2)) .none kVlen dclen pmlen anlen cdlen ctlen), sllen⟩)
    (clen : PySem.W.codeIn K cdlen "Run.__len__" = true)
    (klen : PySem.W.keepIn K (.ref flen) = true)
    (mget : PySem.W.findIn K (.ref C) "__getitem__" = some (some (.ref fget)))
    (iget : PySem.W.isFn K (.ref fget) = true)
    (lget : K.lookup fget = some ⟨ocget, odget, .func (PySem.W.fnOf "__getitem__" "Run.__getitem__" (defArgs (inClass (topS 11) 4)) (defBody (inClass (topS 11) 4)) (defScope (inClass (topS 11) 4)) .none kVget dcget pmget anget cdget ctget), slget⟩)
    (cget : PySem.W.codeIn K cdget "Run.__getitem__" = true)
    (kget : PySem.W.keepIn K (.ref fget) = true)
    (meq : PySem.W.findIn K (.ref C) "__eq__" = some (some (.ref feq)))
    (ieq : PySem.W.isFn K (.ref feq) = true)
    (leq : K.lookup feq = some ⟨oceq, odeq, .func (PySem.W.fnOf "__eq__" "Run.__eq__" (defArgs (inClass (topS 11) 5)) (defBody (inClass (topS 11) 5)) (defScope (inClass (topS 11) 5)) .none kVeq dceq pmeq aneq cdeq cteq), sleq⟩)
    (ceq : PySem.W.codeIn K cdeq "Run.__eq__" = true)
    (keq : PySem.W.keepIn K (.ref feq) = true)
    (mexch : PySem.W.findIn K (.ref C) "exchanged" = some (some (.ref fexch)))
    (iexch : PySem.W.isFn K (.ref fexch) = true)
    (lexch : K.lookup fexch = some ⟨ocexch, odexch, .func (PySem.W.fnOf "exchanged" "Run.exchanged" (defArgs (inClass (topS 11) 10)) (defBody (inClass (topS 11) 10)) (defScope (inClass (topS 11) 10)) .none kVexch dcexch pmexch anexch cdexch ctexch), slexch⟩)
    (cexch : PySem.W.codeIn K cdexch "Run.exchanged" = true)
    (kexch : PySem.W.keepIn K (.ref fexch) = true)
    (fi : PySem.W.fnIn K fget = true)
    (haC : PySem.W.findIn K (.ref C) "__class__" = some (some (.builtin "object.__class__")))
    (hnC : PySem.W.specialIn K (.builtin "object.__class__") "__get__" = some (some (.builtin "getset_descriptor.__get__")))
    (htC : PySem.W.takesIn K (.builtin "object.__class__") = some true)
    (hmC : PySem.W.mroIn K C (.type "object") = some true)
    (z_isinstance : PySem.W.nsIn K mainGlobals "isinstance" = some (none))
    (z_int : PySem.W.nsIn K mainGlobals "int" = some (none))
    (z_bool : PySem.W.nsIn K mainGlobals "bool" = some (none))
    (z_len : PySem.W.nsIn K mainGlobals "len" = some (none))
    (z_any : PySem.W.nsIn K mainGlobals "any" = some (none))
    (z_tuple : PySem.W.nsIn K mainGlobals "tuple" = some (none))
    (z_abs : PySem.W.nsIn K mainGlobals "abs" = some (none))
    (z_range : PySem.W.nsIn K mainGlobals "range" = some (none))
    (z_sorted : PySem.W.nsIn K mainGlobals "sorted" = some (none))
    (z_list : PySem.W.nsIn K mainGlobals "list" = some (none))
    (z_super : PySem.W.nsIn K mainGlobals "super" = some (none))
    (opq : PySem.W.nsIn K cStatics "thirdparty.any" = some none)
    (topB : (P.main.scope.names.lookup ("super" : Str)).isSome = false)
    (gn0 : PySem.W.nsIn K mainGlobals "NoMeeting" = some (some (.ref C0)))
    (x0 : K.lookup C0 = some (excClassObj nm0 q0 C0 N0 bs0 [.ref cS, .type "ValueError", .type "Exception", .type "BaseException", .type "object"] true sn0 sub0 ab0 col0 dd0 m0_0 m0_1 m0_2 m0_3 m0_5 "ValueError.__new__"))
    (ga0 : PySem.W.findIn K (.ref C0) "__getattribute__" = some (some (.builtin "BaseException.__getattribute__")))
    (gg0 : PySem.W.findIn K (.ref C0) "__getattr__" = some none)
    (sa0 : PySem.W.findIn K (.ref C0) "__setattr__" = some (some (.builtin "object.__setattr__")))
    (no0 : PySem.W.findIn K (.ref C0) "place" = some none)
    (iB0 : PySem.W.findIn K (.ref C0) "__init__" = some (some (.ref fI0)))
    (ex0 : PySem.W.subIn K (.ref C0) (.type "BaseException") = some true)
    (ve0 : PySem.W.subIn K (.ref C0) (.type "ValueError") = some true)
    (hd0 : PySem.W.hasDictIn K C0 = true)
    (ty0 : PySem.W.typeIn K (.ref C0) = some (.type "type"))
    (kp0 : PySem.W.keepIn K (.ref C0) = true)
    (ic0 : PySem.W.isClsIn K C0 = true)
    (sb0 : PySem.W.subIn K (.ref C0) (.ref C0) = some true)
    (ei0 : PySem.W.excInitIn K C0 [.type "ValueError", .type "Exception", .type "BaseException", .type "object"] "ValueError.__new__" = true)
    (tB0 : PySem.W.typeIn K (.ref fI0) = some (.type "function"))
    (mr0 : PySem.W.mroIn K C0 (.ref C0) = some true)
    (sp0 : PySem.W.ks_superIn K C0 C0 "__init__" = some (some (.builtin "ValueError.__init__")))
    (lB0 : K.lookup fI0 = some ⟨ocB0, odB0, .func (PySem.W.ksFn "__init__" "NoMeeting.__init__" (FsBplace.eA b0_1 b0_2) (FsBplace.eB (FsBplace.eM zM0 q0_0) r0_0 r0_1 r0_2 r0_3 r0_4 r0_5 r0_6 r0_7 r0_8) FsBplace.eS .none kVB0 dcB0 pmB0 anB0 (.ref cda0) ctB0 cc0), slB0⟩)
    (cB0 : PySem.W.codeIn K (.ref cda0) "NoMeeting.__init__" = true)
    (oB0 : K.lookup cda0 = some ⟨ccl0, cdd0, .fields vsB0, ccs0⟩)
    (vB0 : vsB0[2]? = some (.str fileB0 tfB0))
    (fB0 : ((P.main.file : Str) == fileB0) = true)
    (ce0 : K.lookup cc0 = some ⟨clB0, cld0, .cell (some (.ref C0)), csl0⟩)
    (ln0 : (r0_2.endLine == r0_3.line) = true)
    (zM0l : zM0.length ≤ 1000)
    (gn1 : PySem.W.nsIn K mainGlobals "Dependent" = some (some (.ref C1)))
    (x1 : K.lookup C1 = some (excClassObj nm1 q1 C1 N1 bs1 [.ref cS, .type "ValueError", .type "Exception", .type "BaseException", .type "object"] true sn1 sub1 ab1 col1 dd1 m1_0 m1_1 m1_2 m1_3 m1_5 "ValueError.__new__"))
    (ga1 : PySem.W.findIn K (.ref C1) "__getattribute__" = some (some (.builtin "BaseException.__getattribute__")))
    (gg1 : PySem.W.findIn K (.ref C1) "__getattr__" = some none)
    (sa1 : PySem.W.findIn K (.ref C1) "__setattr__" = some (some (.builtin "object.__setattr__")))
    (no1 : PySem.W.findIn K (.ref C1) "place" = some none)
    (iB1 : PySem.W.findIn K (.ref C1) "__init__" = some (some (.ref fI1)))
    (ex1 : PySem.W.subIn K (.ref C1) (.type "BaseException") = some true)
    (ve1 : PySem.W.subIn K (.ref C1) (.type "ValueError") = some true)
    (hd1 : PySem.W.hasDictIn K C1 = true)
    (ty1 : PySem.W.typeIn K (.ref C1) = some (.type "type"))
    (kp1 : PySem.W.keepIn K (.ref C1) = true)
    (ic1 : PySem.W.isClsIn K C1 = true)
    (sb1 : PySem.W.subIn K (.ref C1) (.ref C1) = some true)
    (ei1 : PySem.W.excInitIn K C1 [.type "ValueError", .type "Exception", .type "BaseException", .type "object"] "ValueError.__new__" = true)
    (tB1 : PySem.W.typeIn K (.ref fI1) = some (.type "function"))
    (mr1 : PySem.W.mroIn K C1 (.ref C1) = some true)
    (sp1 : PySem.W.ks_superIn K C1 C1 "__init__" = some (some (.builtin "ValueError.__init__")))
    (lB1 : K.lookup fI1 = some ⟨ocB1, odB1, .func (PySem.W.ksFn "__init__" "Dependent.__init__" (FsBplace.eA b1_1 b1_2) (FsBplace.eB (FsBplace.eM zM1 q1_0) r1_0 r1_1 r1_2 r1_3 r1_4 r1_5 r1_6 r1_7 r1_8) FsBplace.eS .none kVB1 dcB1 pmB1 anB1 (.ref cda1) ctB1 cc1), slB1⟩)
    (cB1 : PySem.W.codeIn K (.ref cda1) "Dependent.__init__" = true)
    (oB1 : K.lookup cda1 = some ⟨ccl1, cdd1, .fields vsB1, ccs1⟩)
    (vB1 : vsB1[2]? = some (.str fileB1 tfB1))
    (fB1 : ((P.main.file : Str) == fileB1) = true)
    (ce1 : K.lookup cc1 = some ⟨clB1, cld1, .cell (some (.ref C1)), csl1⟩)
    (ln1 : (r1_2.endLine == r1_3.line) = true)
    (zM1l : zM1.length ≤ 1000)
    (sbX : PySem.W.subIn K (.ref C0) (.ref C1) = some false) :
    ∃ fd : FuncData, (∀ (s : Shared) (v : Value), BindsTo s fd ⟨[v], []⟩ [("_law_script", v)]) ∧ ∀ base : Heap, K.In base → base.Ns mainGlobals mg → FnOk P w K mg base CX0 7 fa fd ["_law_script"] (spLaw K) := by
  have e := hfa.symm.trans (PySem.W.mg_of X G alaw)
  cases e
  have Fisint := fun_mk (st := (topS 2)) lisint cisint kisint
  have Bisint := Fisint.binds (ps := ["value"]) fun _ _ _ _ _ _ us hl => match us, hl with | [_], _ => rfl
  have Findex := fun_mk (st := (topS 3)) lindex cindex kindex
  have Bindex := Findex.binds (ps := ["at", "count"]) fun _ _ _ _ _ _ us hl => match us, hl with | [_, _], _ => rfl
  have Fmach := fun_mk (st := (topS 9)) lmach cmach kmach
  have Bmach := Fmach.binds (ps := ["meeting"]) fun _ _ _ _ _ _ us hl => match us, hl with | [_], _ => rfl
  have Ftakes := fun_mk (st := (topS 12)) ltakes ctakes ktakes
  have Btakes := Ftakes.binds (ps := ["meeting", "machines"]) fun _ _ _ _ _ _ us hl => match us, hl with | [_, _], _ => rfl
  have Forder := fun_mk (st := (topS 13)) lorder corder korder
  have Border := Forder.binds (ps := ["meetings"]) fun _ _ _ _ _ _ us hl => match us, hl with | [_], _ => rfl
  have Fcmpb := fun_mk (st := (topS 14)) lcmpb ccmpb kcmpb
  have Bcmpb := Fcmpb.binds (ps := ["meeting"]) fun _ _ _ _ _ _ us hl => match us, hl with | [_], _ => rfl
  have Fcellat := fun_mk (st := (topS 16)) lcellat ccellat kcellat
  have Bcellat := Fcellat.binds (ps := ["_law_script", "_law_k"]) fun _ _ _ _ _ _ us hl => match us, hl with | [_, _], _ => rfl
  have Fmixed := fun_mk (st := (topS 17)) lmixed cmixed kmixed
  have Bmixed := Fmixed.binds (ps := ["_law_cell", "_law_k"]) fun _ _ _ _ _ _ us hl => match us, hl with | [_, _], _ => rfl
  have Frow := fun_mk (st := (topS 18)) lrow crow krow
  have Brow := Frow.binds (ps := ["_law_cell", "_law_many"]) fun _ _ _ _ _ _ us hl => match us, hl with | [_, _], _ => rfl
  have Fmee := fun_mk (st := (topS 19)) lmee cmee kmee
  have Bmee := Fmee.binds (ps := ["_law_row_here"]) fun _ _ _ _ _ _ us hl => match us, hl with | [_], _ => rfl
  have Flrows := fun_mk (st := (topS 20)) llrows clrows klrows
  have Blrows := Flrows.binds (ps := ["_law_run"]) fun _ _ _ _ _ _ us hl => match us, hl with | [_], _ => rfl
  have Ftried := fun_mk (st := (topS 21)) ltried ctried ktried
  have Btried := Ftried.binds (ps := ["_law_run", "_law_place"]) fun _ _ _ _ _ _ us hl => match us, hl with | [_, _], _ => rfl
  have Flaw := fun_mk (st := (topS 22)) llaw claw klaw
  have Blaw := Flaw.binds (ps := ["_law_script"]) fun _ _ _ _ _ _ us hl => match us, hl with | [_], _ => rfl
  have Finit := fun_mk (st := (inClass (topS 11) 0)) linit cinit kinit
  have Binit := Finit.binds (ps := ["self", "meetings"]) fun _ _ _ _ _ _ us hl => match us, hl with | [_, _], _ => rfl
  have Flen := fun_mk (st := (inClass (topS 11) 2)) llen clen klen
  have Blen := Flen.binds (ps := ["self"]) fun _ _ _ _ _ _ us hl => match us, hl with | [_], _ => rfl
  have Fget := fun_mk (st := (inClass (topS 11) 4)) lget cget kget
  have Bget := Fget.binds (ps := ["self", "at"]) fun _ _ _ _ _ _ us hl => match us, hl with | [_, _], _ => rfl
  have Feq := fun_mk (st := (inClass (topS 11) 5)) leq ceq keq
  have Beq := Feq.binds (ps := ["self", "other"]) fun _ _ _ _ _ _ us hl => match us, hl with | [_, _], _ => rfl
  have Fexch := fun_mk (st := (inClass (topS 11) 10)) lexch cexch kexch
  have Bexch := Fexch.binds (ps := ["self", "k"]) fun _ _ _ _ _ _ us hl => match us, hl with | [_, _], _ => rfl
  have T0 : FsBplace.ErrTxt P K mg "NoMeeting" C0 fI0 := { gC := PySem.W.mg_of X G gn0, cls := ⟨nm0, q0, N0, bs0, _, sn0, sub0, ab0, col0, dd0, m0_0, m0_1, m0_2, m0_3, m0_5, x0, rfl⟩, ei := ei0, sa := sa0, noN := no0, iC := iB0, tC := tB0, kC := kp0, exC := ex0, veC := ve0, tyC := ty0, slf := mr0, sup := sp0, opq := opq, gs := PySem.W.mg_none_of X G z_super, top := topB, fn := ⟨ocB0, odB0, anB0, kVB0, dcB0, pmB0, ctB0, slB0, _, cda0, cc0, ccl0, clB0, cdd0, cld0, ccs0, csl0, vsB0, fileB0, tfB0, zM0, b0_1, b0_2, q0_0, r0_0, r0_1, r0_2, r0_3, r0_4, r0_5, r0_6, r0_7, r0_8, lB0, cB0, oB0, vB0, fB0, ce0, zM0l, ln0⟩ }
  have T1 : FsBplace.ErrTxt P K mg "Dependent" C1 fI1 := { gC := PySem.W.mg_of X G gn1, cls := ⟨nm1, q1, N1, bs1, _, sn1, sub1, ab1, col1, dd1, m1_0, m1_1, m1_2, m1_3, m1_5, x1, rfl⟩, ei := ei1, sa := sa1, noN := no1, iC := iB1, tC := tB1, kC := kp1, exC := ex1, veC := ve1, tyC := ty1, slf := mr1, sup := sp1, opq := opq, gs := PySem.W.mg_none_of X G z_super, top := topB, fn := ⟨ocB1, odB1, anB1, kVB1, dcB1, pmB1, ctB1, slB1, _, cda1, cc1, ccl1, clB1, cdd1, cld1, ccs1, csl1, vsB1, fileB1, tfB1, zM1, b1_1, b1_2, q1_0, r1_0, r1_1, r1_2, r1_3, r1_4, r1_5, r1_6, r1_7, r1_8, lB1, cB1, oB1, vB1, fB1, ce1, zM1l, ln1⟩ }
  have T : RunT K mg := { isinst := PySem.W.mg_none_of X G z_isinstance, int := PySem.W.mg_none_of X G z_int, bool := PySem.W.mg_none_of X G z_bool, len := PySem.W.mg_none_of X G z_len, any := PySem.W.mg_none_of X G z_any, tuple := PySem.W.mg_none_of X G z_tuple }
  have L : LawT K mg := { len := PySem.W.mg_none_of X G z_len, int := PySem.W.mg_none_of X G z_int, abs := PySem.W.mg_none_of X G z_abs, range := PySem.W.mg_none_of X G z_range }
  have R : RunO K mg C := { cl := ⟨pg, hd, po, sa⟩, nR := nR, mgC := PySem.W.mg_of X G aC, ha := haC, hn := hnC, htk := htC, hm := hmC }
  refine ⟨PySem.W.fnOf "law" "law" (defArgs (topS 22)) (defBody (topS 22)) (defScope (topS 22)) .none kVlaw dclaw pmlaw anlaw cdlaw ctlaw, fun s v => .of_eq rfl, fun base _ _ => ?_⟩
  have Gisint : CalX P w K mg base CX0 1 "is_int" spIsInt := ⟨_, _, _, ok_isint Fisint T, PySem.W.mg_of X G aisint, kisint, Bisint⟩
  have Gindex : CalX P w K mg base CX0 2 "is_index" spIndex := ⟨_, _, _, ok_index Findex Gisint, PySem.W.mg_of X G aindex, kindex, Bindex⟩
  have Gmach : CalX P w K mg base CX0 1 "machines_in" spMach := ⟨_, _, _, ok_mach Fmach, PySem.W.mg_of X G amach, kmach, Bmach⟩
  have Gcellat : CalX P w K mg base CX0 1 "_law_cell_at" (spCellAt K) := ⟨_, _, _, ok_cell_at Fcellat L, PySem.W.mg_of X G acellat, kcellat, Bcellat⟩
  have Gmixed : CalX P w K mg base CX0 1 "_law_mixed" spMixed := ⟨_, _, _, ok_mixed Fmixed L, PySem.W.mg_of X G amixed, kmixed, Bmixed⟩
  have Grow : CalX P w K mg base CX0 2 "_law_row" spRow := ⟨_, _, _, ok_row Frow L Gmixed, PySem.W.mg_of X G arow, krow, Brow⟩
  have EP : ErrP K mg C0 C1 := { gN := PySem.W.mg_of X G gn0, gD := PySem.W.mg_of X G gn1, xN := ⟨ga0, gg0, ex0, hd0⟩, xD := ⟨ga1, gg1, ex1, hd1⟩, nN := no0, nD := no1, tN := exm_b ex0 ic0 ty0 sb0, tD := exm_b ex1 ic1 ty1 sb1, tX := exm_b ex1 ic1 ty1 sbX }
  have MR : MakX P w K mg base CX0 1 "Run" C (spRunInitA K C) := ⟨_, _, _, ⟨mk, minit, iinit, kc⟩, ok_runinitA Finit T R.toRunC, PySem.W.mg_of X G aC, Binit⟩
  have IX : IxM K C fget := ⟨mget, iget, fi⟩
  have LM : LenM K C flen := ⟨mlen, ilen⟩
  have OG := ok_runget (P := P) (w := w) (base := base) Fget T R.toRunC Gindex
  have OL := ok_runlen (P := P) (w := w) (base := base) Flen T R.toRunC
  have Gcmpb : CalX P w K mg base CX0 1 "comparable" spCmpb := ⟨_, _, _, ok_cmpb Fcmpb T, PySem.W.mg_of X G acmpb, kcmpb, Bcmpb⟩
  have Gorder : CalX P w K mg base CX0 2 "order_free" spOrder := ⟨_, _, _, ok_order Forder Gcmpb (PySem.W.mg_none_of X G z_sorted), PySem.W.mg_of X G aorder, korder, Border⟩
  have Gmee : CalX P w K mg base CX0 1 "_law_meetings" spMeetM := ⟨_, _, _, ok_meeM Fmee L (PySem.W.mg_none_of X G z_tuple), PySem.W.mg_of X G amee, kmee, Bmee⟩
  have Glrows : CalX P w K mg base CX0 5 "_law_rows" (spLRows C) := ⟨_, _, _, ok_lrows Flrows L IX OG Bget LM OL Blen, PySem.W.mg_of X G alrows, klrows, Blrows⟩
  have Gtakes : CalX P w K mg base CX0 2 "takes_any" spTakesL := ⟨_, _, _, ok_takesL Ftakes T Gmach, PySem.W.mg_of X G atakes, ktakes, Btakes⟩
  have OX := ok_rungetX (P := P) (w := w) (base := base) (CN := C0) Fget T R.toRunC Gindex (raises_int (by decide) T0)
  have OE := ok_exch (P := P) (w := w) (base := base) (CN := C0) (CD := C1) Fexch R.toRunC Gmach Gtakes IX OX Bget MR (raises_int (by decide) T1)
  have Gtried : CalX P w K mg base CX0 6 "_law_tried" (spTried C) := ⟨_, _, _, ok_tried Ftried R.toRunC EP ⟨mexch, iexch, kexch⟩ OE Bexch, PySem.W.mg_of X G atried, ktried, Btried⟩
  exact ok_law Flaw L T R (PySem.W.mg_none_of X G z_list) Gcellat Grow Gmee MR Glrows Gtried ⟨mexch, iexch, kexch⟩ OE Bexch ⟨meq, ieq⟩ (ok_runeq Feq T R Gorder) Beq
theorem walk {l : PySem.W.OpenLaw} {q : Program} {loose : List Str} {XP : (Str → Option Value) → Heap → Prop} {YP : World → Heap → Prop} {d : DefRec} {K : Params → PySem.W.Frag} (hn : l.most = some 63) (hdf : d.params.defaults = [])
    (hY : ∀ (w : World) (h : Heap), YP w h → (K w.params).In h)
    (hF : ∀ (w : World) (mg : Str → Option Value) (fa : Addr) (h : Heap), (K w.params).In h → h.Ns mainGlobals mg → mg d.name = some (.ref fa) →
      ∃ fd : FuncData, (∀ (s : Shared) (u : Value), BindsTo s fd ⟨[u], []⟩ [("_law_script", u)]) ∧ ∀ base : Heap, (K w.params).In base → base.Ns mainGlobals mg → FnOk l.prog w (K w.params) mg base CX0 7 fa fd ["_law_script"] (spLaw (K w.params))) :
    PySem.W.WalkO q loose XP YP l.row.toRowW d [] (fun f vs => PySem.call f vs) :=
  L2.walk_of (n := 63) (k := 7) (x := "_law_script") (CX := fun _ => CX0) (sp := fun w => spLaw (K w.params)) hn (by decide) hdf ⟨rfl, by decide, by decide⟩ hY hF (fun _ _ a ns _ _ hS => ⟨a, ns, rfl, hS, fun _ _ => rfl⟩) fun _ _ _ _ _ z => z
end Fs

open PySem PySem.W PyProof.Rows
set_option Elab.async false
set_option maxRecDepth 100000 in
set_option maxHeartbeats 0 in
theorem PySem.Challenge.cw_fullseats_k35_exchanged_neighbours_holds : PySem.Challenge.rw_fullseats_k35_exchanged_neighbours.Holds := by
  w_on; o_law; k_head; (case hw => w_witness2)
  k_fill
  refine Fs.walk (l := PySem.Challenge.rw_fullseats_k35_exchanged_neighbours) rfl rfl (fun w h Y => PySem.W.kIn_of Y) ?F
  case F =>
    intro w mg fa h KX G hmg
    refine' Fs.all_mk KX G hmg ?aisint ?lisint ?cisint ?kisint ?aindex ?lindex ?cindex ?kindex ?amach ?lmach ?cmach ?kmach ?atakes ?ltakes ?ctakes ?ktakes ?aorder ?lorder ?corder ?korder ?acmpb ?lcmpb ?ccmpb ?kcmpb ?acellat ?lcellat ?ccellat ?kcellat ?amixed ?lmixed ?cmixed ?kmixed ?arow ?lrow ?crow ?krow ?amee ?lmee ?cmee ?kmee ?alrows ?llrows ?clrows ?klrows ?atried ?ltried ?ctried ?ktried ?alaw ?llaw ?claw ?klaw ?aC ?pg ?hd ?po ?sa ?nR ?mk ?kc ?minit ?iinit ?linit ?cinit ?kinit ?mlen ?ilen ?llen ?clen ?klen ?mget ?iget ?lget ?cget ?kget ?meq ?ieq ?leq ?ceq ?keq ?mexch ?iexch ?lexch ?cexch ?kexch ?fi ?haC ?hnC ?htC ?hmC ?z_isinstance ?z_int ?z_bool ?z_len ?z_any ?z_tuple ?z_abs ?z_range ?z_sorted ?z_list ?z_super ?opq ?topB ?gn0 ?x0 ?ga0 ?gg0 ?sa0 ?no0 ?iB0 ?ex0 ?ve0 ?hd0 ?ty0 ?kp0 ?ic0 ?sb0 ?ei0 ?tB0 ?mr0 ?sp0 ?lB0 ?cB0 ?oB0 ?vB0 ?fB0 ?ce0 ?ln0 ?zM0l ?gn1 ?x1 ?ga1 ?gg1 ?sa1 ?no1 ?iB1 ?ex1 ?ve1 ?hd1 ?ty1 ?kp1 ?ic1 ?sb1 ?ei1 ?tB1 ?mr1 ?sp1 ?lB1 ?cB1 ?oB1 ?vB1 ?fB1 ?ce1 ?ln1 ?zM1l ?sbX
    (case aisint => k_is)
    (case lisint => k_is)
    (case cisint => k_is)
    (case kisint => k_is)
    (case aindex => k_is)
    (case lindex => k_is)
    (case cindex => k_is)
    (case kindex => k_is)
    (case amach => k_is)
    (case lmach => k_is)
    (case cmach => k_is)
    (case kmach => k_is)
    (case atakes => k_is)
    (case ltakes => k_is)
    (case ctakes => k_is)
    (case ktakes => k_is)
    (case aorder => k_is)
    (case lorder => k_is)
    (case corder => k_is)
    (case korder => k_is)
    (case acmpb => k_is)
    (case lcmpb => k_is)
    (case ccmpb => k_is)
    (case kcmpb => k_is)
    (case acellat => k_is)
    (case lcellat => k_is)
    (case ccellat => k_is)
    (case kcellat => k_is)
    (case amixed => k_is)
    (case lmixed => k_is)
    (case cmixed => k_is)
    (case kmixed => k_is)
    (case arow => k_is)
    (case lrow => k_is)
    (case crow => k_is)
    (case krow => k_is)
    (case amee => k_is)
    (case lmee => k_is)
    (case cmee => k_is)
    (case kmee => k_is)
    (case alrows => k_is)
    (case llrows => k_is)
    (case clrows => k_is)
    (case klrows => k_is)
    (case atried => k_is)
    (case ltried => k_is)
    (case ctried => k_is)
    (case ktried => k_is)
    (case alaw => k_is)
    (case llaw => k_is)
    (case claw => k_is)
    (case klaw => k_is)
    (case aC => k_is)
    (case pg => k_is)
    (case hd => k_is)
    (case po => k_is)
    (case sa => k_is)
    (case nR => k_is)
    (case mk => k_is)
    (case kc => k_is)
    (case minit => k_is)
    (case iinit => k_is)
    (case linit => k_is)
    (case cinit => k_is)
    (case kinit => k_is)
    (case mlen => k_is)
    (case ilen => k_is)
    (case llen => k_is)
    (case clen => k_is)
    (case klen => k_is)
    (case mget => k_is)
    (case iget => k_is)
    (case lget => k_is)
    (case cget => k_is)
    (case kget => k_is)
    (case meq => k_is)
    (case ieq => k_is)
    (case leq => k_is)
    (case ceq => k_is)
    (case keq => k_is)
    (case mexch => k_is)
    (case iexch => k_is)
    (case lexch => k_is)
    (case cexch => k_is)
    (case kexch => k_is)
    (case fi => k_is)
    (case haC => k_is)
    (case hnC => k_is)
    (case htC => k_is)
    (case hmC => k_is)
    (case z_isinstance => k_is)
    (case z_int => k_is)
    (case z_bool => k_is)
    (case z_len => k_is)
    (case z_any => k_is)
    (case z_tuple => k_is)
    (case z_abs => k_is)
    (case z_range => k_is)
    (case z_sorted => k_is)
    (case z_list => k_is)
    (case z_super => k_is)
    (case opq => k_is)
    (case topB => decide +kernel)
    (case gn0 => k_is)
    (case x0 => k_is)
    (case ga0 => k_is)
    (case gg0 => k_is)
    (case sa0 => k_is)
    (case no0 => k_is)
    (case iB0 => k_is)
    (case ex0 => k_is)
    (case ve0 => k_is)
    (case hd0 => k_is)
    (case ty0 => k_is)
    (case kp0 => k_is)
    (case ic0 => k_is)
    (case sb0 => first | rfl | k_is)
    (case ei0 => kx_is)
    (case tB0 => k_is)
    (case mr0 => k_is)
    (case sp0 => ks_is)
    (case lB0 => k_is)
    (case cB0 => k_is)
    (case oB0 => k_is)
    (case vB0 => rfl)
    (case fB0 => decide +kernel)
    (case ce0 => k_is)
    (case ln0 => decide +kernel)
    (case zM0l => decide +kernel)
    (case gn1 => k_is)
    (case x1 => k_is)
    (case ga1 => k_is)
    (case gg1 => k_is)
    (case sa1 => k_is)
    (case no1 => k_is)
    (case iB1 => k_is)
    (case ex1 => k_is)
    (case ve1 => k_is)
    (case hd1 => k_is)
    (case ty1 => k_is)
    (case kp1 => k_is)
    (case ic1 => k_is)
    (case sb1 => first | rfl | k_is)
    (case ei1 => kx_is)
    (case tB1 => k_is)
    (case mr1 => k_is)
    (case sp1 => ks_is)
    (case lB1 => k_is)
    (case cB1 => k_is)
    (case oB1 => k_is)
    (case vB1 => rfl)
    (case fB1 => decide +kernel)
    (case ce1 => k_is)
    (case ln1 => decide +kernel)
    (case zM1l => decide +kernel)
    (case sbX => k_is)

