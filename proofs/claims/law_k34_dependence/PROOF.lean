import PyProof.Rows.All
import Wide.All
import OpenK.AllK
import Wide.FinOn
import HandS.Base
import HandS.Call
import HandS.List
import HandS.Exc
import HandS.ExcOwn
import HandS.ClsMeth
import KE.DatumOrd
import HandS.SortKw
import HandS.ForMost
import HandS.Evl
import HandS.ForExc
import HandS.Walk
import HandS.IsInst
import HandS.Codes
import PyProof.FString
import KE.KSuper
import KE.KExcSuper
import KE.OsGo
import HandS.OwnEq
import HandS.Dict
import HandS.DictComp
import HandS.Comp
import PyProof.EqAt
import PyProof.NeKinds
import HandS.DeepEq
import HandS.TupAny
import KE.KExcLine
import KE.RegKSuper
import PySem.Challenge.RW_fullseats_k34_dependence
set_option Elab.async false
set_option linter.all false
set_option maxRecDepth 100000
set_option maxHeartbeats 2000000
/-! A staticmethod that is called off its class. -/
namespace FsR
open PySem PySem.Spec PyProof.Rows L2 ClX
structure SMet (K : PySem.W.Frag) (C : Addr) (mc : Value) (m : Str) (p g : Addr) : Prop where
  at_ : PySem.W.findCls K (.ref C) mc m = some (.get (.builtin "staticmethod.__get__") (.ref p) .none (.ref C))
  rc : ∃ rest, PySem.W.recIn K p "staticmethod" = some (.ref g :: rest)
  kp : PySem.W.keepIn K (.ref g) = true
section
variable {X : Cx} {pins : List (Addr × Obj)} {σ : L2.St} {H : Hp} {s : Shared} {C p g : Addr} {mc : Value} {m : Str} {A : Around} {E : Value → Shared → Prop}
theorem getmethsm_ok {pl : Sem Bool} {Q : Value × List Value → Shared → Prop} (I : Inv X pins σ H s) (r : CRead X.K C mc) (k : SMet X.K C mc m p g)
    (h : ∀ s', Inv X pins σ H s' → Q (.ref g, []) s') : wpAny (model X.prog X.w) A (getMethod (.ref C) m pl) Q E s := by
  obtain ⟨rest, hp⟩ := k.rc
  exact PySem.W.method_cls I.kIn r.ga (PySem.W.cls_bind I.kIn r.rd k.at_ (wpAny_call (PySem.W.sm_get (s := { s with toks := s.toks + 1 }) I.kIn hp (PySem.W.handed_on rfl (h _ (I.tok _))))))
end
/-- C.m(..), e the class at C, m a staticmethod; E: what is wanted of what it raises, at the slots -/
def tStat (C : Addr) (sp : Sp) (E : L2.St → XK) (ta : TE) (t : TA) : TE := fun σ H Q => ta σ H fun x H1 => x = .ref C ∧ t σ H1 fun vs H2 => sp vs H2 Q (E σ)
theorem passesAt_of {CX : CXT} {X : Cx} {E : XK} (h : Passes CX X E) (σ : L2.St) : PassesAt CX X σ E := fun pins H s e s' I c => h pins σ H s e s' I c
section
variable {X : Cx} {CX : CXT} {k : Nat} {C p g : Addr} {mc : Value} {fd : FuncData} {ps : List Str} {sp : Sp} {E : L2.St → XK} {o e : Expr} {es : List Expr} {m : Str} {pos apos : Pos} {ta : TE} {t : TA} {pl : Sem Bool}
theorem pe_stat (he : PE X o ta) (r : CRead X.K C mc) (c : SMet X.K C mc m p g) (F : FnOk X.prog X.w X.K X.mg X.base CX k g fd ps sp) (hr : Room k X.A) (hb : Binds X.K fd ps []) (hx : ∀ σ, PassesAt CX X σ (E σ)) (ha : PA X (e :: es) t)
    (hst : starEach (e :: es) X.env = (false, eval e X.env) :: starEach es X.env := by rfl) (hpl : (backTo pos (starEach es X.env)).any (·.1) = false := by rfl)
    (ht : eval (.Call (.Attribute o m apos) (e :: es) [] pos) X.env = (do
      let ov ← eval o X.env
      standAt apos.atName
      let (f, first) ← holding [ov] (getMethod ov m pl)
      callWith pos f first (backTo pos (starEach (e :: es) X.env)) (backToKw pos (keywordEach [] X.env))) := by rfl) :
    PE X (.Call (.Attribute o m apos) (e :: es) [] pos) (tStat C sp E ta t) := by
  refine ⟨fun pins s σ H Q I h => ?_⟩
  refine PySem.W.methodCall_KW (pl := pl) (thn (he.run pins s σ H _ I h) fun u s1 ⟨x, H1, I1, rx, ex, q⟩ => ?_) ht
  subst ex
  obtain rfl : u = Value.ref C := rx
  refine getmethsm_ok I1 r c fun s2 I2 => ?_
  refine PySem.W.callWith_K (first := []) (h₀ := X.base) I.ok.mod.kin c.kp (thn (ha.run pos pins s2 σ H1 _ I2 q) fun us s3 ⟨vs, H2, I3, rv, q2⟩ => ⟨I3.kIn, ?_⟩) hst hpl
  exact run_fnS F hr hb (hx σ) I3 rv q2
theorem pe_stat0 (he : PE X o ta) (r : CRead X.K C mc) (c : SMet X.K C mc m p g) (F : FnOk X.prog X.w X.K X.mg X.base CX k g fd ps sp) (hr : Room k X.A) (hb : Binds X.K fd ps []) (hx : ∀ σ, PassesAt CX X σ (E σ))
    (ht : eval (.Call (.Attribute o m apos) [] [] pos) X.env = (do
      let ov ← eval o X.env
      standAt apos.atName
      let (f, first) ← holding [ov] (getMethod ov m pl)
      callWith pos f first (backTo pos (starEach [] X.env)) (backToKw pos (keywordEach [] X.env))) := by rfl) :
    PE X (.Call (.Attribute o m apos) [] [] pos) (tStat C sp E ta tNil) := by
  refine ⟨fun pins s σ H Q I h => ?_⟩
  refine PySem.W.methodCall_KW (pl := pl) (thn (he.run pins s σ H _ I h) fun u s1 ⟨x, H1, I1, rx, ex, q⟩ => ?_) ht
  subst ex
  obtain rfl : u = Value.ref C := rx
  refine getmethsm_ok I1 r c fun s2 I2 => ?_
  exact PySem.W.callWith_K0 (first := []) I2.kIn c.kp (run_fnS (us := []) (vs := []) F hr hb (hx σ) I2 .nil q)
end
end FsR

set_option Elab.async false
set_option linter.all false
set_option maxRecDepth 100000
set_option maxHeartbeats 2000000
/-! max(xs, default=d) of a list of ints -/
namespace FsR
open PySem PySem.Spec PyProof.Rows L2
def maxFrom (y : Int) (ys : List Int) : Int := ys.foldl max y
def maxDef (d : Int) : List Int → Int
  | [] => d
  | y :: ys => maxFrom y ys
theorem maxOf_eq : ∀ (ys : List Int) (y : Int), PySem.W.maxOf y ys = maxFrom y ys
  | [], y => rfl
  | z :: zs, y => by
    have e : (if PySem.W.DatumOrd.lt y z = true then z else y) = max y z := by
      show (if decide (y < z) = true then z else y) = max y z
      by_cases h : y < z
      · rw [if_pos (decide_eq_true h)]; omega
      · rw [if_neg (by simpa using h)]; omega
    have ih := maxOf_eq zs (max y z)
    unfold PySem.W.maxOf maxFrom at *
    rw [List.foldl_cons, List.foldl_cons, e]
    exact ih
theorem readsAll_ints {h : Heap} : ∀ {vs : List Value} {ns : List Int}, IntsAre vs ns → ∃ as, ReadsAll h vs (ns.map PySem.W.Datum.toD) as
  | _, _, .nil => ⟨[], .nil⟩
  | _, _, .cons n t r => by
    obtain ⟨as, z⟩ := readsAll_ints (h := h) r
    exact ⟨[] ++ as, .cons (.int n t) z⟩
/-- max(xs, default=d) -/
def rMaxD (K : PySem.W.Frag) : List V → List V → Hp → VK → Prop := fun xs zs H Q => ∃ (a : Addr) (ns : List Int) (d : Int), xs = [V.ref a] ∧ zs = [V.int d] ∧ SqL K H a (ns.map V.int) ∧ Q (.int (maxDef d ns)) H
theorem ck_maxD {X : Cx} (hc : X.calm = true) (hu : X.A.units + 1 + 1 < cLine) : CallRK X (.builtin "max") ["default"] (rMaxD X.K) := by
  intro pins s σ H xs zs us ws Q I r rz h
  obtain ⟨a, ns, d, rfl, rfl, hs, q⟩ := h
  obtain ⟨its, rv, hl, _⟩ := I.list hs
  rw [Vals.ref1 r]
  cases rz with
  | cons rd rn =>
    cases rn
    obtain ⟨t, rfl⟩ := rd
    have hI := rv.ints
    show wpAny (model X.prog X.w) X.A (call (.builtin "max") [.ref a] [(Str.ofString "default", .int d t)]) _ _ _
    refine PySem.W.max_list_datum_default (α := Int) (xs := ns) (I.ok.hd hc) hl.isList (readsAll_ints hI) (by show X.A.units + 1 + 0 < cLine; omega) (fun e h' tk hk => ?_) (fun y ys i v h' tk e hi hv hk => ?_)
    · subst e
      exact ⟨.int d, H, I.kept hk, ⟨t, rfl⟩, q⟩
    · subst e
      obtain ⟨as, z⟩ := hv
      have z' : ∃ t', v = Value.int (PySem.W.maxOf y ys) t' := by
        have z2 : Reads h' v (.int (PySem.W.maxOf y ys)) as := z
        cases z2 with
        | int _ t' => exact ⟨t', rfl⟩
      obtain ⟨t', rfl⟩ := z'
      refine ⟨.int (PySem.W.maxOf y ys), H, I.kept hk, ⟨t', rfl⟩, ?_⟩
      rw [maxOf_eq]
      exact q
end FsR

set_option Elab.async false
set_option linter.all false
set_option maxRecDepth 100000
set_option maxHeartbeats 2000000
namespace Fs
open PySem L2 Evl
/-! ### operands, processes, offers -/
inductive Opd where
  | int (i : Int)
  | nm (z : Str)
def Opd.v : Opd → V
  | .int i => .int i
  | .nm z => .str z
mutual
inductive Pr where
  | choice (os : Ofs)
  | new (n : Str) (k : Int) (r : Pr)
  | cond (l r : Opd) (y n : Pr)
  | call (n : Str) (ops : List Opd)
inductive Ofs where
  | nil
  | cons (c : Str) (seat seats : Int) (op : Opd) (names : List Str) (rest : Pr) (os : Ofs)
end
mutual
def Pr.depth : Pr → Int
  | .choice os => 1 + os.depth
  | .new _ _ r => 1 + r.depth
  | .cond _ _ y n => 1 + max y.depth n.depth
  | .call _ _ => 1
def Ofs.depth : Ofs → Int
  | .nil => 0
  | .cons _ _ _ _ _ r os => max r.depth os.depth
end
def Ofs.len : Ofs → Nat
  | .nil => 0
  | .cons _ _ _ _ _ _ os => os.len + 1
mutual
def Pr.size : Pr → Int
  | .choice os => max 1 (os.len : Int) + os.sum
  | .new _ _ r => 1 + r.size
  | .cond _ _ y n => 1 + (y.size + n.size)
  | .call _ _ => 1
def Ofs.sum : Ofs → Int
  | .nil => 0
  | .cons _ _ _ _ _ r os => r.size + os.sum
end
def Pr.kind : Pr → Str
  | .choice _ => "choice"
  | .new _ _ _ => "new"
  | .cond _ _ _ _ => "if"
  | .call _ _ => "call"
/-- the attributes, in the order in which __init__ stores them -/
def pFlds (k : Str) (t : Addr) (d z : Int) : List (Str × V) := putF "size" (.int z) (putF "depth" (.int d) (putF "parts" (.ref t) (putF "kind" (.str k) [])))
theorem n1 : ¬ (("kind" : Str) = "parts") := by decide +kernel
theorem n2 : ¬ (("kind" : Str) = "depth") := by decide +kernel
theorem n3 : ¬ (("kind" : Str) = "size") := by decide +kernel
theorem n4 : ¬ (("parts" : Str) = "depth") := by decide +kernel
theorem n5 : ¬ (("parts" : Str) = "size") := by decide +kernel
theorem n6 : ¬ (("depth" : Str) = "size") := by decide +kernel
theorem pf_kind {k : Str} {t : Addr} {d z : Int} : (pFlds k t d z).lookup ("kind" : Str) = some (.str k) := by
  unfold pFlds
  rw [lookup_putF, if_neg n3, lookup_putF, if_neg n2, lookup_putF, if_neg n1, lookup_putF, if_pos rfl]
theorem pf_parts {k : Str} {t : Addr} {d z : Int} : (pFlds k t d z).lookup ("parts" : Str) = some (.ref t) := by
  unfold pFlds
  rw [lookup_putF, if_neg n5, lookup_putF, if_neg n4, lookup_putF, if_pos rfl]
theorem pf_depth {k : Str} {t : Addr} {d z : Int} : (pFlds k t d z).lookup ("depth" : Str) = some (.int d) := by
  unfold pFlds
  rw [lookup_putF, if_neg n6, lookup_putF, if_pos rfl]
theorem pf_size {k : Str} {t : Addr} {d z : Int} : (pFlds k t d z).lookup ("size" : Str) = some (.int z) := by
  unfold pFlds
  rw [lookup_putF, if_pos rfl]
/-- an instance of the class at C with these parts -/
def InsAt (C : Addr) (H : Hp) (a : Addr) (k : Str) (t : Addr) (d z : Int) : Prop := ∃ dx, H a = some (.ins C dx (pFlds k t d z))
mutual
/-- at a stands the process p -/
def PrAt (C : Addr) (H : Hp) (a : Addr) : Pr → Prop
  | .choice os => ∃ t ps, InsAt C H a "choice" t (1 + os.depth) (max 1 (os.len : Int) + os.sum) ∧ H t = some (.tup ps) ∧ OfsAt C H ps os
  | .new n k r => ∃ t b, InsAt C H a "new" t (1 + r.depth) (1 + r.size) ∧ H t = some (.tup [.str n, .int k, .ref b]) ∧ PrAt C H b r
  | .cond l r y n => ∃ t b c, InsAt C H a "if" t (1 + max y.depth n.depth) (1 + (y.size + n.size)) ∧ H t = some (.tup [l.v, r.v, .ref b, .ref c]) ∧ PrAt C H b y ∧ PrAt C H c n
  | .call n ops => ∃ t u, InsAt C H a "call" t 1 1 ∧ H t = some (.tup [.str n, .ref u]) ∧ H u = some (.tup (ops.map Opd.v))
def OfsAt (C : Addr) (H : Hp) (ps : List V) : Ofs → Prop
  | .nil => ps = []
  | .cons c s m op ns r os => ∃ o u b qs, ps = .ref o :: qs ∧ H o = some (.tup [.str c, .int s, .int m, op.v, .ref u, .ref b]) ∧ H u = some (.tup (ns.map V.str)) ∧ PrAt C H b r ∧ OfsAt C H qs os
end
theorem InsAt.ex {C : Addr} {H H' : Hp} {a : Addr} {k : Str} {t : Addr} {d z : Int} (e : Ex H H') (h : InsAt C H a k t d z) : InsAt C H' a k t d z := by
  obtain ⟨dx, h⟩ := h
  exact ⟨dx, e _ _ h⟩
mutual
theorem PrAt.ex {C : Addr} {H H' : Hp} (e : Ex H H') : ∀ {p : Pr} {a : Addr}, PrAt C H a p → PrAt C H' a p
  | .choice os, a, h => by
    unfold PrAt at h ⊢
    obtain ⟨t, ps, h1, h2, h3⟩ := h
    exact ⟨t, ps, h1.ex e, e _ _ h2, OfsAt.ex e h3⟩
  | .new n k r, a, h => by
    unfold PrAt at h ⊢
    obtain ⟨t, b, h1, h2, h3⟩ := h
    exact ⟨t, b, h1.ex e, e _ _ h2, PrAt.ex e h3⟩
  | .cond l r y n, a, h => by
    unfold PrAt at h ⊢
    obtain ⟨t, b, c, h1, h2, h3, h4⟩ := h
    exact ⟨t, b, c, h1.ex e, e _ _ h2, PrAt.ex e h3, PrAt.ex e h4⟩
  | .call n ops, a, h => by
    unfold PrAt at h ⊢
    obtain ⟨t, u, h1, h2, h3⟩ := h
    exact ⟨t, u, h1.ex e, e _ _ h2, e _ _ h3⟩
theorem OfsAt.ex {C : Addr} {H H' : Hp} (e : Ex H H') : ∀ {os : Ofs} {ps : List V}, OfsAt C H ps os → OfsAt C H' ps os
  | .nil, ps, h => by
    unfold OfsAt at h ⊢
    exact h
  | .cons c s m op ns r os, ps, h => by
    unfold OfsAt at h ⊢
    obtain ⟨o, u, b, qs, h1, h2, h3, h4, h5⟩ := h
    exact ⟨o, u, b, qs, h1, e _ _ h2, e _ _ h3, PrAt.ex e h4, OfsAt.ex e h5⟩
end
/-- whatever the process: its instance -/
theorem PrAt.ins {C : Addr} {H : Hp} {p : Pr} {a : Addr} (h : PrAt C H a p) : ∃ t ps, InsAt C H a p.kind t p.depth p.size ∧ H t = some (.tup ps) := by
  cases p with
  | choice os =>
    unfold PrAt at h
    obtain ⟨t, ps, h1, h2, _⟩ := h
    exact ⟨t, ps, by unfold Pr.kind Pr.depth Pr.size; exact h1, h2⟩
  | new n k r =>
    unfold PrAt at h
    obtain ⟨t, b, h1, h2, _⟩ := h
    exact ⟨t, _, by unfold Pr.kind Pr.depth Pr.size; exact h1, h2⟩
  | cond l r y n =>
    unfold PrAt at h
    obtain ⟨t, b, c, h1, h2, _⟩ := h
    exact ⟨t, _, by unfold Pr.kind Pr.depth Pr.size; exact h1, h2⟩
  | call n ops =>
    unfold PrAt at h
    obtain ⟨t, u, h1, h2, _⟩ := h
    exact ⟨t, _, by unfold Pr.kind Pr.depth Pr.size; exact h1, h2⟩
end Fs

set_option Elab.async false
set_option linter.all false
set_option maxRecDepth 100000
set_option maxHeartbeats 2000000
/-! further Ev lemmas -/
namespace FsE
open PySem L2 Evl
section
variable {K : PySem.W.Frag} {σ : L2.St} {H : Hp} {ta tb tc te : TE} {x y z : V}
theorem ev_chain {r r' : R2} {a b : Bool} (ha : Ev ta σ H x) (hb : Ev tb σ H y) (h1 : RV r x y H (.bl a)) (hc : a = true → Ev tc σ H z) (h2 : a = true → RV r' y z H (.bl b)) : Ev (tChain r r' ta tb tc) σ H (.bl (a && b)) := fun H1 e Q q =>
  ha H1 e _ fun H2 e2 => hb H2 (e.trans e2) _ fun H3 e3 => h1 H3 ((e.trans e2).trans e3) _ fun H4 e4 => ⟨a, rfl, by
    cases a with
    | true =>
      show tc σ H4 _
      exact hc rfl H4 (((e.trans e2).trans e3).trans e4) _ fun H5 e5 => h2 rfl H5 ((((e.trans e2).trans e3).trans e4).trans e5) Q fun H6 e6 => q H6 ((((e2.trans e3).trans e4).trans e5).trans e6)
    | false =>
      show Q (.bl false) H4
      exact q H4 ((e2.trans e3).trans e4)⟩
theorem rc_isi {t T : String} {b : Bool} (ht : ∀ H1, Ex H H1 → TyX K H1 x (.type t)) (hk : kitB t T = some b) : RC (rIsi K) [x, .ty T] H (.bl b) := fun H1 e Q q =>
  ⟨x, .ty T, .type t, .type T, b, rfl, .ty T, ht H1 e, kit_ty hk, q H1 (Ex.refl H1)⟩
theorem rc_isStr {z : Str} {T : String} {b : Bool} (hk : kitB "str" T = some b) : RC (rIsi K) [.str z, .ty T] H (.bl b) := rc_isi (fun _ _ => .base (.str z)) hk
theorem rc_isInt {i : Int} {T : String} {b : Bool} (hk : kitB "int" T = some b) : RC (rIsi K) [.int i, .ty T] H (.bl b) := rc_isi (fun _ _ => .base (.int i)) hk
/-- len of a text -/
theorem rc_lenS {z : Str} (hz : z.length ≤ sizeLine) : RC (fun xs H Q => ∃ a, xs = [.str a] ∧ a.length ≤ sizeLine ∧ Q (.int (a.length : Nat)) H) [.str z] H (.int (z.length : Nat)) := fun H1 _ _ q => ⟨z, rfl, hz, q H1 (Ex.refl H1)⟩
theorem rv_inSign {c : Nat} {z : Str} : RV (fun x y H Q => ∃ (c : Nat) (z : Str), x = .str ⟨#[c]⟩ ∧ y = .str z ∧ Q (.bl (decide (c ∈ z.cps.toList))) H) (.str ⟨#[c]⟩) (.str z) H (.bl (decide (c ∈ z.cps.toList))) := fun H1 _ _ q => ⟨c, z, rfl, rfl, q H1 (Ex.refl H1)⟩
theorem rv_niSign {c : Nat} {z : Str} : RV (fun x y H Q => ∃ (c : Nat) (z : Str), x = .str ⟨#[c]⟩ ∧ y = .str z ∧ Q (.bl (!decide (c ∈ z.cps.toList))) H) (.str ⟨#[c]⟩) (.str z) H (.bl (!decide (c ∈ z.cps.toList))) := fun H1 _ _ q => ⟨c, z, rfl, rfl, q H1 (Ex.refl H1)⟩
/-- a comprehension over a text -/
theorem el_lcS {z : Str} {tl : TE} {j : Nat} {vs : List Nat} {t : TT} (f : Nat → Bool) (v : Nat → V) (h : Ev tl σ H (.str z)) (hz : z.cps.size ≤ 40000) (hw : ∀ x, wipe ((wipe σ vs).set j (some x)) vs = wipe σ vs)
    (ht : ∀ (i : Nat) (c : Nat) H1, Ex H H1 → z.cps[i]? = some c → EvT t ((wipe σ vs).set j (some (.str ⟨#[c]⟩))) H1 (f i)) (he : ∀ (i : Nat) (c : Nat) H1, Ex H H1 → z.cps[i]? = some c → f i = true → Ev te ((wipe σ vs).set j (some (.str ⟨#[c]⟩))) H1 (v i)) :
    EvL (tLc (iStr tl) (gName j) t te vs) σ H (given z.cps.size f v) := fun H0 e Q q => h H0 e _ fun H1 e1 => ⟨z, rfl, fun Dl hD =>
  lc_it walk_str (Cw H1 f v Dl) ⟨hD, Ex.new hD, upd_same⟩ (fun _ _ _ _ => trivial) (fun i x H' H2 hi p y => by
    obtain ⟨rfl, c, hc, rfl⟩ := y
    exact ⟨hw _, cw_turn p (by omega) (ht i c H1 (e.trans e1) hc) (fun hf => he i c H1 (e.trans e1) hc hf)⟩)
    (fun H' p => q Dl H' (fresh_back e1 p.1) (e1.trans p.2.1) p.2.2)⟩
/-- all of a new list of bools -/
theorem ev_all {bs : List Bool} (h : EvL te σ H (bs.map V.bl)) : Ev (tCB (rAll K) (tCons te tNil)) σ H (.bl (bs.all id)) := fun H1 e Q q =>
  h H1 e _ fun p H2 _ e2 hp => ⟨p, bs, rfl, sq_of hp, q H2 e2⟩
/-- given, no test -/
theorem given_all {n : Nat} {v : Nat → V} : given n (fun _ => true) v = (List.range n).map v := by
  unfold given
  rw [List.filter_eq_self.mpr (fun _ _ => rfl)]
theorem et_nil : EvT tYes σ H true := fun H1 _ _ q => q H1 (Ex.refl H1)
theorem range_map {α : Type} (xs : List α) (d : α) (v : α → V) : (List.range xs.length).map (fun i => v (xs.getD i d)) = xs.map v := by
  refine List.ext_getElem? fun i => ?_
  rw [List.getElem?_map, List.getElem?_map]
  by_cases hi : i < xs.length
  · rw [List.getElem?_range hi, List.getElem?_eq_getElem hi]
    show some (v (xs.getD i d)) = some (v xs[i])
    rw [List.getD_eq_getElem?_getD, List.getElem?_eq_getElem hi]
    rfl
  · rw [List.getElem?_eq_none (by rw [List.length_range]; omega), List.getElem?_eq_none (by omega)]
    rfl
/-- [e for c in text] -/
theorem el_lcSm {z : Str} {tl : TE} {j : Nat} {vs : List Nat} (v : Nat → V) (h : Ev tl σ H (.str z)) (hz : z.length ≤ 40000) (hw : ∀ x, wipe ((wipe σ vs).set j (some x)) vs = wipe σ vs)
    (he : ∀ (c : Nat) H1, Ex H H1 → c ∈ z.cps.toList → Ev te ((wipe σ vs).set j (some (.str ⟨#[c]⟩))) H1 (v c)) : EvL (tLc (iStr tl) (gName j) tYes te vs) σ H (z.cps.toList.map v) := by
  have g := el_lcS (te := te) (j := j) (vs := vs) (t := tYes) (fun _ => true) (fun i => v (z.cps.toList.getD i 0)) h hz hw (fun _ _ _ _ _ => et_nil) (fun i c H3 e hc _ => by
    have e1 : z.cps.toList.getD i 0 = c := by
      rw [List.getD_eq_getElem?_getD, Array.getElem?_toList, hc]
      rfl
    rw [e1]
    exact he c H3 e (by rw [List.mem_iff_getElem?]; exact ⟨i, by rw [Array.getElem?_toList, hc]⟩))
  rw [given_all] at g
  have e := range_map z.cps.toList 0 v
  rw [Array.length_toList] at e
  rw [e] at g
  exact g
/-- [e for x in list] -/
theorem el_lcLm {a : Addr} {xs : List V} {tl : TE} {j : Nat} {vs : List Nat} (v : V → V) (h : Ev tl σ H (.ref a)) (hx : SqL K H a xs) (hz : xs.length ≤ 40000) (hw : ∀ x, wipe ((wipe σ vs).set j (some x)) vs = wipe σ vs)
    (he : ∀ (x : V) H1, Ex H H1 → x ∈ xs → Ev te ((wipe σ vs).set j (some x)) H1 (v x)) : EvL (tLc (iList K tl) (gName j) tYes te vs) σ H (xs.map v) := by
  have g := el_lcL (K := K) (te := te) (j := j) (vs := vs) (t := tYes) (fun _ => true) (fun i => v (xs.getD i .non)) h hx hz hw (fun _ _ _ _ _ => et_nil) (fun i x H3 e hc _ => by
    have e1 : xs.getD i .non = x := by
      rw [List.getD_eq_getElem?_getD, hc]
      rfl
    rw [e1]
    exact he x H3 e (List.mem_iff_getElem?.mpr ⟨i, hc⟩))
  rw [given_all, range_map xs .non v] at g
  exact g
/-- [e for x in (a new list)] -/
theorem el_lcNLm {xs : List V} {tl : TE} {j : Nat} {vs : List Nat} (v : V → V) (h : EvL tl σ H xs) (hz : xs.length ≤ 40000) (hw : ∀ x, wipe ((wipe σ vs).set j (some x)) vs = wipe σ vs)
    (he : ∀ (x : V) H1, Ex H H1 → x ∈ xs → Ev te ((wipe σ vs).set j (some x)) H1 (v x)) : EvL (tLc (iList K tl) (gName j) tYes te vs) σ H (xs.map v) := by
  have g := el_lcNL (K := K) (te := te) (j := j) (vs := vs) (t := tYes) (fun _ => true) (fun i => v (xs.getD i .non)) h hz hw (fun _ _ _ _ _ => et_nil) (fun i x H3 e hc _ => by
    have e1 : xs.getD i .non = x := by
      rw [List.getD_eq_getElem?_getD, hc]
      rfl
    rw [e1]
    exact he x H3 e (List.mem_iff_getElem?.mpr ⟨i, hc⟩))
  rw [given_all, range_map xs .non v] at g
  exact g
/-- [e for k in range(n)] -/
theorem el_lcRm {tn : TA} {j : Nat} {vs : List Nat} {n : Int} (v : Nat → V) (h : EvA tn σ H [.int n]) (hn : 0 ≤ n ∧ n ≤ 40000) (hw : ∀ x, wipe ((wipe σ vs).set j (some x)) vs = wipe σ vs)
    (he : ∀ (i : Nat) H1, Ex H H1 → (i : Int) < n → Ev te ((wipe σ vs).set j (some (.int (i : Int)))) H1 (v i)) : EvL (tLc (iRng1 tn) (gName j) tYes te vs) σ H ((List.range n.toNat).map v) := by
  have g := el_lcR1 (te := te) (j := j) (vs := vs) (t := tYes) (fun _ => true) v h hn hw (fun _ _ _ _ => et_nil) (fun i H1 e hi _ => he i H1 e hi)
  rw [given_all] at g
  exact g
/-- a comprehension over a tuple -/
theorem el_lcT {a : Addr} {xs : List V} {tl : TE} {j : Nat} {vs : List Nat} {t : TT} (f : Nat → Bool) (v : Nat → V) (h : Ev tl σ H (.ref a)) (hx : SqT K H a xs) (hz : xs.length ≤ 40000) (hw : ∀ x, wipe ((wipe σ vs).set j (some x)) vs = wipe σ vs)
    (ht : ∀ (i : Nat) (x : V) H1, Ex H H1 → xs[i]? = some x → EvT t ((wipe σ vs).set j (some x)) H1 (f i)) (he : ∀ (i : Nat) (x : V) H1, Ex H H1 → xs[i]? = some x → f i = true → Ev te ((wipe σ vs).set j (some x)) H1 (v i)) :
    EvL (tLc (iTup K tl) (gName j) t te vs) σ H (given xs.length f v) := fun H0 e Q q => h H0 e _ fun H1 e1 => ⟨a, rfl, ⟨xs, ex_t (e.trans e1) hx⟩, fun Dl hD =>
  lc_tup (xs := xs) (Cw H1 f v Dl) ⟨hD, Ex.new hD, upd_same⟩ (fun i H' _ p => ex_t ((e.trans e1).trans p.2.1) hx) (fun i x H' hi p => ⟨hw x, cw_turn p (by have := (List.getElem?_eq_some_iff.mp hi).1; omega) (ht i x H1 (e.trans e1) hi) (fun hf => he i x H1 (e.trans e1) hi hf)⟩)
    (fun H' p => q Dl H' (fresh_back e1 p.1) (e1.trans p.2.1) p.2.2)⟩
theorem ev_fld {a C dx : Addr} {fs : List (Str × V)} {f : Str} {v : V} (h : Ev ta σ H (.ref a)) (hi : H a = some (.ins C dx fs)) (cl : Cls K C) (n : NoAttr K C f) (l : fs.lookup f = some v) : Ev (tFld K ta f) σ H v := fun H1 e Q q =>
  h H1 e _ fun H2 e2 => ⟨a, C, dx, fs, v, rfl, (e.trans e2) _ _ hi, cl, n, l, q H2 e2⟩
theorem ev_sum {ns : List Int} (h : EvL te σ H (ns.map V.int)) : Ev (tCB (rSum K) (tCons te tNil)) σ H (.int ns.sum) := fun H1 e Q q =>
  h H1 e _ fun p H2 _ e2 hp => ⟨p, ns, rfl, sq_of hp, q H2 e2⟩
theorem ev_maxD {ns : List Int} {d : Int} (h : EvL te σ H (ns.map V.int)) : Ev (tCKw (FsR.rMaxD K) (tCons te tNil) (tCons (tC (.int d)) tNil)) σ H (.int (FsR.maxDef d ns)) := fun H1 e Q q =>
  h H1 e _ fun p H2 _ e2 hp => ⟨p, ns, d, rfl, rfl, sq_of hp, q H2 e2⟩
theorem ev_lenT {a : Addr} {xs : List V} (h : Ev ta σ H (.ref a)) (hx : SqT K H a xs) : Ev (tCB (fun xs H Q => ∃ p ys, xs = [V.ref p] ∧ (SqL K H p ys ∨ SqT K H p ys) ∧ Q (.int ys.length) H) (tCons ta tNil)) σ H (.int (xs.length : Int)) := fun H1 e Q q =>
  h H1 e _ fun H2 e2 => ⟨a, xs, rfl, .inr (ex_t (e.trans e2) hx), q H2 e2⟩
theorem rc_isiOwn {C : Addr} {t : Value} {b : Bool} (ht : ∀ H1, Ex H H1 → TyX K H1 x t) (hk : PySem.W.kitOne K t (.ref C) = some b) : RC (rIsi K) [x, .ref C] H (.bl b) := fun H1 e Q q =>
  ⟨x, .ref C, t, .ref C, b, rfl, .own C, ht H1 e, hk, q H1 (Ex.refl H1)⟩
theorem range_ys {xs ys : List V} (hl : ys.length = xs.length) : (List.range xs.length).map (fun i => ys.getD i .non) = ys := by
  have e := range_map ys .non (fun y => y)
  rw [List.map_id', hl] at e
  exact e
/-- comprehensions, the result told by its items -/
theorem el_lcNLy {xs ys : List V} {tl : TE} {j : Nat} {vs : List Nat} (h : EvL tl σ H xs) (hz : xs.length ≤ 40000) (hw : ∀ x, wipe ((wipe σ vs).set j (some x)) vs = wipe σ vs) (hl : ys.length = xs.length)
    (he : ∀ (i : Nat) (x y : V) H1, Ex H H1 → xs[i]? = some x → ys[i]? = some y → Ev te ((wipe σ vs).set j (some x)) H1 y) : EvL (tLc (iList K tl) (gName j) tYes te vs) σ H ys := by
  have g := el_lcNL (K := K) (te := te) (j := j) (vs := vs) (t := tYes) (fun _ => true) (fun i => ys.getD i .non) h hz hw (fun _ _ _ _ _ => et_nil) (fun i x H3 e hc _ => by
    have hi := (List.getElem?_eq_some_iff.mp hc).1
    have hy : ys[i]? = some (ys.getD i .non) := by rw [List.getD_eq_getElem?_getD, List.getElem?_eq_getElem (by omega)]; rfl
    exact he i x _ H3 e hc hy)
  rw [given_all, range_ys hl] at g
  exact g
theorem el_lcLy {a : Addr} {xs ys : List V} {tl : TE} {j : Nat} {vs : List Nat} (h : Ev tl σ H (.ref a)) (hx : SqL K H a xs) (hz : xs.length ≤ 40000) (hw : ∀ x, wipe ((wipe σ vs).set j (some x)) vs = wipe σ vs) (hl : ys.length = xs.length)
    (he : ∀ (i : Nat) (x y : V) H1, Ex H H1 → xs[i]? = some x → ys[i]? = some y → Ev te ((wipe σ vs).set j (some x)) H1 y) : EvL (tLc (iList K tl) (gName j) tYes te vs) σ H ys := by
  have g := el_lcL (K := K) (te := te) (j := j) (vs := vs) (t := tYes) (fun _ => true) (fun i => ys.getD i .non) h hx hz hw (fun _ _ _ _ _ => et_nil) (fun i x H3 e hc _ => by
    have hi := (List.getElem?_eq_some_iff.mp hc).1
    have hy : ys[i]? = some (ys.getD i .non) := by rw [List.getD_eq_getElem?_getD, List.getElem?_eq_getElem (by omega)]; rfl
    exact he i x _ H3 e hc hy)
  rw [given_all, range_ys hl] at g
  exact g
theorem el_lcTy {a : Addr} {xs ys : List V} {tl : TE} {j : Nat} {vs : List Nat} (h : Ev tl σ H (.ref a)) (hx : SqT K H a xs) (hz : xs.length ≤ 40000) (hw : ∀ x, wipe ((wipe σ vs).set j (some x)) vs = wipe σ vs) (hl : ys.length = xs.length)
    (he : ∀ (i : Nat) (x y : V) H1, Ex H H1 → xs[i]? = some x → ys[i]? = some y → Ev te ((wipe σ vs).set j (some x)) H1 y) : EvL (tLc (iTup K tl) (gName j) tYes te vs) σ H ys := by
  have g := el_lcT (K := K) (te := te) (j := j) (vs := vs) (t := tYes) (fun _ => true) (fun i => ys.getD i .non) h hx hz hw (fun _ _ _ _ _ => et_nil) (fun i x H3 e hc _ => by
    have hi := (List.getElem?_eq_some_iff.mp hc).1
    have hy : ys[i]? = some (ys.getD i .non) := by rw [List.getD_eq_getElem?_getD, List.getElem?_eq_getElem (by omega)]; rfl
    exact he i x _ H3 e hc hy)
  rw [given_all, range_ys hl] at g
  exact g
end
end FsE

set_option Elab.async false
set_option linter.all false
set_option maxRecDepth 100000
set_option maxHeartbeats 2000000
namespace FsC
open PySem L2 Evl ClX FsR
/-- a def of the module that may be called by its name -/
structure CalX (P : Program) (w : World) (K : PySem.W.Frag) (mg : Str → Option Value) (base : Heap) (CX : CXT) (k : Nat) (x : Str) (sp : Sp) : Prop where
  ex : ∃ (f : Addr) (fd : FuncData) (ps : List Str), FnOk P w K mg base CX k f fd ps sp ∧ mg x = some (.ref f) ∧ PySem.W.keepIn K (.ref f) = true ∧ Binds K fd ps []
/-- C.m, a staticmethod of the class at C -/
structure StaX (P : Program) (w : World) (K : PySem.W.Frag) (mg : Str → Option Value) (base : Heap) (CX : CXT) (k : Nat) (C : Addr) (m : Str) (sp : Sp) : Prop where
  ex : ∃ (p f : Addr) (mc : Value) (fd : FuncData) (ps : List Str), CRead K C mc ∧ SMet K C mc m p f ∧ FnOk P w K mg base CX k f fd ps sp ∧ Binds K fd ps []
/-- C(..): a class that is made by its name -/
structure MakX (P : Program) (w : World) (K : PySem.W.Frag) (mg : Str → Option Value) (base : Heap) (CX : CXT) (k : Nat) (x : Str) (C : Addr) (sp : Sp) : Prop where
  ex : ∃ (f : Addr) (fd : FuncData) (ps : List Str), Mk K C f ∧ FnOk P w K mg base CX k f fd ps sp ∧ mg x = some (.ref C) ∧ Binds K fd ps []
section
variable {X : Cx} {CX : CXT} {k j : Nat} {C : Addr} {x m : Str} {sp : Sp} {E : L2.St → XK} {p pos apos : Pos} {e o : Expr} {es : List Expr} {ta : TE} {t : TA}
theorem pe_cx (c : CalX X.prog X.w X.K X.mg X.base CX k x sp) (hr : Room j X.A) (hk : k ≤ j) (hg : Gl X x) (hx : ∀ σ, PassesAt CX X σ (E σ)) (ha : PA X (e :: es) t)
    (hdb : (x == ("__debug__" : Str)) = false := by decide) (he : starEach (e :: es) X.env = (false, eval e X.env) :: starEach es X.env := by rfl) (hpl : (backTo pos (starEach es X.env)).any (·.1) = false := by rfl) :
    PE X (.Call (.Name x p) (e :: es) [] pos) (tCallS sp E t) := by
  obtain ⟨f, fd, ps, F, hm, kp, b⟩ := c.ex
  exact pe_callS F (hr.mono hk) hg hm kp b hx ha hdb he hpl
theorem pe_sx {pl : Sem Bool} (c : StaX X.prog X.w X.K X.mg X.base CX k C m sp) (hr : Room j X.A) (hk : k ≤ j) (ho : PE X o ta) (hx : ∀ σ, PassesAt CX X σ (E σ)) (ha : PA X (e :: es) t)
    (hst : starEach (e :: es) X.env = (false, eval e X.env) :: starEach es X.env := by rfl) (hpl : (backTo pos (starEach es X.env)).any (·.1) = false := by rfl)
    (ht : eval (.Call (.Attribute o m apos) (e :: es) [] pos) X.env = (do
      let ov ← eval o X.env
      standAt apos.atName
      let (f, first) ← holding [ov] (getMethod ov m pl)
      callWith pos f first (backTo pos (starEach (e :: es) X.env)) (backToKw pos (keywordEach [] X.env))) := by rfl) :
    PE X (.Call (.Attribute o m apos) (e :: es) [] pos) (tStat C sp E ta t) := by
  obtain ⟨p, f, mc, fd, ps, r, s, F, b⟩ := c.ex
  exact pe_stat (pl := pl) ho r s F (hr.mono hk) b hx ha hst hpl ht
theorem pe_sx0 {pl : Sem Bool} (c : StaX X.prog X.w X.K X.mg X.base CX k C m sp) (hr : Room j X.A) (hk : k ≤ j) (ho : PE X o ta) (hx : ∀ σ, PassesAt CX X σ (E σ))
    (ht : eval (.Call (.Attribute o m apos) [] [] pos) X.env = (do
      let ov ← eval o X.env
      standAt apos.atName
      let (f, first) ← holding [ov] (getMethod ov m pl)
      callWith pos f first (backTo pos (starEach [] X.env)) (backToKw pos (keywordEach [] X.env))) := by rfl) :
    PE X (.Call (.Attribute o m apos) [] [] pos) (tStat C sp E ta tNil) := by
  obtain ⟨p, f, mc, fd, ps, r, s, F, b⟩ := c.ex
  exact pe_stat0 (pl := pl) ho r s F (hr.mono hk) b hx ht
theorem pe_mx {E : XK} (c : MakX X.prog X.w X.K X.mg X.base CX k x C sp) (hr : Room j X.A) (hk : k + 1 ≤ j) (hg : Gl X x) (hx : Passes CX X E) (ha : PA X (e :: es) t)
    (hdb : (x == ("__debug__" : Str)) = false := by decide) (he : starEach (e :: es) X.env = (false, eval e X.env) :: starEach es X.env := by rfl) (hpl : (backTo pos (starEach es X.env)).any (·.1) = false := by rfl) :
    PE X (.Call (.Name x p) (e :: es) [] pos) (tMake C sp [] E t) := by
  obtain ⟨f, fd, ps, M, F, hm, b⟩ := c.ex
  exact pe_make M F (hr.mono hk) hg hm b .nil hx ha hdb he hpl
theorem at0 {X : Cx} {E : L2.St → XK} : ∀ σ, PassesAt CX0 X σ (E σ) := fun _ _ _ _ _ _ _ h => h.elim
/-- what a call within a def that may raise lets out -/
theorem atX {P : Program} {w : World} {X : Cx} {E : XK} (h : Passes (L2.CX P w) X E) : ∀ σ, PassesAt (L2.CX P w) X σ ((fun _ => E) σ) := fun σ => passesAt_of h σ
end
section
variable {σ : L2.St} {H : Hp} {z : V} {sp : Sp} {ta : TA} {vs : List V} {E : L2.St → XK}
theorem ev_cx (h : EvA ta σ H vs) (hs : SpV sp vs H z) : Ev (tCallS sp E ta) σ H z := fun H1 e Q q =>
  h H1 e _ fun H2 e2 => hs H2 (e.trans e2) Q (fun H3 e3 => q H3 (e2.trans e3)) (E σ)
theorem ev_sx {C : Addr} {to : TE} (ho : Ev to σ H (.ref C)) (h : EvA ta σ H vs) (hs : SpV sp vs H z) : Ev (tStat C sp E to ta) σ H z := fun H1 e Q q =>
  ho H1 e _ fun H2 e2 => ⟨rfl, h H2 (e.trans e2) _ fun H3 e3 => hs H3 ((e.trans e2).trans e3) Q (fun H4 e4 => q H4 ((e2.trans e3).trans e4)) (E σ)⟩
theorem el_cx {xs : List V} (h : EvA ta σ H vs) (hs : SpL sp vs H xs) : EvL (tCallS sp E ta) σ H xs := fun H1 e Q q =>
  h H1 e _ fun H2 e2 => hs H2 (e.trans e2) Q (fun p H3 hp e3 h3 => q p H3 (fresh_back e2 hp) (e2.trans e3) h3) (E σ)
end
end FsC

set_option Elab.async false
set_option linter.all false
set_option maxRecDepth 100000
set_option maxHeartbeats 2000000
namespace Fs
open PySem L2 Evl FsE FsC FsR
/-- the parts of a process, as its tuple holds them -/
def PartsAt (C : Addr) (H : Hp) (ps : List V) : Pr → Prop
  | .choice os => OfsAt C H ps os
  | .new n k r => ∃ b, ps = [.str n, .int k, .ref b] ∧ PrAt C H b r
  | .cond l r y n => ∃ b c, ps = [l.v, r.v, .ref b, .ref c] ∧ PrAt C H b y ∧ PrAt C H c n
  | .call n ops => ∃ u, ps = [.str n, .ref u] ∧ H u = some (.tup (ops.map Opd.v))
theorem PartsAt.ex {C : Addr} {H H' : Hp} {ps : List V} {p : Pr} (e : Ex H H') (h : PartsAt C H ps p) : PartsAt C H' ps p := by
  cases p with
  | choice os => exact OfsAt.ex e h
  | new n k r =>
    obtain ⟨b, h1, h2⟩ := h
    exact ⟨b, h1, h2.ex e⟩
  | cond l r y n =>
    obtain ⟨b, c, h1, h2, h3⟩ := h
    exact ⟨b, c, h1, h2.ex e, h3.ex e⟩
  | call n ops =>
    obtain ⟨u, h1, h2⟩ := h
    exact ⟨u, h1, e _ _ h2⟩
theorem PrAt.mk {C : Addr} {H : Hp} {a t : Addr} {ps : List V} {p : Pr} (h1 : InsAt C H a p.kind t p.depth p.size) (h2 : H t = some (.tup ps)) (h3 : PartsAt C H ps p) : PrAt C H a p := by
  cases p with
  | choice os =>
    unfold PrAt
    unfold Pr.kind Pr.depth Pr.size at h1
    exact ⟨t, ps, h1, h2, h3⟩
  | new n k r =>
    unfold PrAt
    unfold Pr.kind Pr.depth Pr.size at h1
    obtain ⟨b, rfl, h4⟩ := h3
    exact ⟨t, b, h1, h2, h4⟩
  | cond l r y n =>
    unfold PrAt
    unfold Pr.kind Pr.depth Pr.size at h1
    obtain ⟨b, c, rfl, h4, h5⟩ := h3
    exact ⟨t, b, c, h1, h2, h4, h5⟩
  | call n ops =>
    unfold PrAt
    unfold Pr.kind Pr.depth Pr.size at h1
    obtain ⟨u, rfl, h4⟩ := h3
    exact ⟨t, u, h1, h2, h4⟩
theorem PrAt.out {C : Addr} {H : Hp} {a : Addr} {p : Pr} (h : PrAt C H a p) : ∃ t ps, InsAt C H a p.kind t p.depth p.size ∧ H t = some (.tup ps) ∧ PartsAt C H ps p := by
  cases p with
  | choice os =>
    unfold PrAt at h
    obtain ⟨t, ps, h1, h2, h3⟩ := h
    exact ⟨t, ps, by unfold Pr.kind Pr.depth Pr.size; exact h1, h2, h3⟩
  | new n k r =>
    unfold PrAt at h
    obtain ⟨t, b, h1, h2, h3⟩ := h
    exact ⟨t, _, by unfold Pr.kind Pr.depth Pr.size; exact h1, h2, b, rfl, h3⟩
  | cond l r y n =>
    unfold PrAt at h
    obtain ⟨t, b, c, h1, h2, h3, h4⟩ := h
    exact ⟨t, _, by unfold Pr.kind Pr.depth Pr.size; exact h1, h2, b, c, rfl, h3, h4⟩
  | call n ops =>
    unfold PrAt at h
    obtain ⟨t, u, h1, h2, h3⟩ := h
    exact ⟨t, _, by unfold Pr.kind Pr.depth Pr.size; exact h1, h2, u, rfl, h3⟩
/-! ### what is contained directly -/
def Ofs.rests : Ofs → List Pr
  | .nil => []
  | .cons _ _ _ _ _ r os => r :: os.rests
def Pr.inner : Pr → List Pr
  | .choice os => os.rests
  | .new _ _ r => [r]
  | .cond _ _ y n => [y, n]
  | .call _ _ => []
/-- a list of processes, by their addresses -/
def InnAt (C : Addr) (H : Hp) : List V → List Pr → Prop
  | [], [] => True
  | x :: xs, p :: ps => (∃ a, x = .ref a ∧ PrAt C H a p) ∧ InnAt C H xs ps
  | _, _ => False
theorem InnAt.ex {C : Addr} {H H' : Hp} (e : Ex H H') : ∀ {xs : List V} {ps : List Pr}, InnAt C H xs ps → InnAt C H' xs ps
  | [], [], _ => True.intro
  | x :: xs, p :: ps, ⟨⟨a, h1, h2⟩, h3⟩ => ⟨⟨a, h1, h2.ex e⟩, InnAt.ex e h3⟩
  | [], _ :: _, h => h.elim
  | _ :: _, [], h => h.elim
theorem InnAt.get {C : Addr} {H : Hp} : ∀ {xs : List V} {ps : List Pr} {x : V}, InnAt C H xs ps → x ∈ xs → ∃ a p, x = .ref a ∧ PrAt C H a p ∧ p ∈ ps
  | [], _, _, _, hx => nomatch hx
  | y :: xs, [], _, h, _ => h.elim
  | y :: xs, p :: ps, x, ⟨⟨a, h1, h2⟩, h3⟩, hx => by
    rcases List.mem_cons.mp hx with rfl | hx
    · exact ⟨a, p, h1, h2, List.mem_cons_self⟩
    · obtain ⟨b, q, k1, k2, k3⟩ := InnAt.get h3 hx
      exact ⟨b, q, k1, k2, List.mem_cons_of_mem _ k3⟩
theorem InnAt.length {C : Addr} {H : Hp} : ∀ {xs : List V} {ps : List Pr}, InnAt C H xs ps → xs.length = ps.length
  | [], [], _ => rfl
  | x :: xs, p :: ps, ⟨_, h⟩ => congrArg (· + 1) (InnAt.length h)
  | [], _ :: _, h => h.elim
  | _ :: _, [], h => h.elim
theorem Ofs.rests_len : ∀ os : Ofs, os.rests.length = os.len
  | .nil => rfl
  | .cons _ _ _ _ _ r os => congrArg (· + 1) (Ofs.rests_len os)
/-- the greatest depth, the sum of the sizes -/
theorem Ofs.sum_eq : ∀ os : Ofs, os.sum = (os.rests.map Pr.size).sum
  | .nil => rfl
  | .cons _ _ _ _ _ r os => by
    unfold Ofs.sum Ofs.rests
    rw [List.map_cons, List.sum_cons, Ofs.sum_eq os]
mutual
theorem Pr.depth_pos : ∀ p : Pr, 1 ≤ p.depth
  | .choice os => by
    unfold Pr.depth
    have := Ofs.depth_nn os
    omega
  | .new _ _ r => by
    unfold Pr.depth
    have := Pr.depth_pos r
    omega
  | .cond _ _ y n => by
    unfold Pr.depth
    have := Pr.depth_pos y
    have := Pr.depth_pos n
    omega
  | .call _ _ => by
    unfold Pr.depth
    omega
theorem Ofs.depth_nn : ∀ os : Ofs, 0 ≤ os.depth
  | .nil => by
    unfold Ofs.depth
    omega
  | .cons _ _ _ _ _ r os => by
    unfold Ofs.depth
    have := Pr.depth_pos r
    omega
end
theorem maxFrom_ge : ∀ (ys : List Int) (y : Int), maxFrom y ys = max y (maxFrom 0 ys) ∨ (y < 0)
  | [], y => by
    unfold maxFrom
    simp only [List.foldl_nil]
    omega
  | z :: zs, y => by
    have h1 := maxFrom_ge zs (max y z)
    have h2 := maxFrom_ge zs (max 0 z)
    unfold maxFrom at *
    simp only [List.foldl_cons]
    omega
theorem Ofs.depth_eq : ∀ os : Ofs, maxDef 0 (os.rests.map Pr.depth) = os.depth
  | .nil => rfl
  | .cons _ _ _ _ _ r os => by
    unfold Ofs.rests Ofs.depth
    rw [List.map_cons]
    show maxFrom r.depth (os.rests.map Pr.depth) = max r.depth os.depth
    have ih := Ofs.depth_eq os
    have hr := Pr.depth_pos r
    cases hr2 : os.rests.map Pr.depth with
    | nil =>
      rw [hr2] at ih
      have e0 : (0 : Int) = os.depth := ih
      unfold maxFrom
      simp only [List.foldl_nil]
      omega
    | cons y ys =>
      rw [hr2] at ih
      have e0 : maxFrom y ys = os.depth := ih
      have hy : 1 ≤ y := by
        have : y ∈ os.rests.map Pr.depth := by rw [hr2]; exact List.mem_cons_self
        obtain ⟨q, _, rfl⟩ := List.mem_map.mp this
        exact Pr.depth_pos q
      have h1 := maxFrom_ge ys y
      have h2 := maxFrom_ge ys (max r.depth y)
      show maxFrom (max r.depth y) ys = _
      omega
theorem Pr.depth_eq (p : Pr) : 1 + maxDef 0 (p.inner.map Pr.depth) = p.depth := by
  cases p with
  | choice os =>
    unfold Pr.inner Pr.depth
    rw [Ofs.depth_eq]
  | new n k r =>
    unfold Pr.depth
    rfl
  | cond l r y n =>
    unfold Pr.depth
    rfl
  | call n ops =>
    unfold Pr.depth
    rfl
def Pr.own : Pr → Int
  | .choice os => max 1 (os.len : Int)
  | _ => 1
theorem Pr.size_eq (p : Pr) : p.own + (p.inner.map Pr.size).sum = p.size := by
  cases p with
  | choice os =>
    unfold Pr.inner Pr.size Pr.own
    rw [Ofs.sum_eq]
  | new n k r =>
    unfold Pr.size Pr.own Pr.inner
    simp
  | cond l r y n =>
    unfold Pr.size Pr.own Pr.inner
    simp
  | call n ops =>
    unfold Pr.size Pr.own Pr.inner
    simp
theorem OfsAt.len {C : Addr} {H : Hp} : ∀ {os : Ofs} {ps : List V}, OfsAt C H ps os → ps.length = os.len
  | .nil, ps, h => by
    unfold OfsAt at h
    rw [h]
    rfl
  | .cons c s m op ns r os, ps, h => by
    unfold OfsAt at h
    obtain ⟨o, u, b, qs, h1, _, _, _, h5⟩ := h
    rw [h1]
    exact congrArg (· + 1) (OfsAt.len h5)
/-- the rests of the offers -/
theorem OfsAt.rests {C : Addr} {H : Hp} : ∀ {os : Ofs} {ps : List V}, OfsAt C H ps os → ∃ rs : List V, rs.length = ps.length ∧ InnAt C H rs os.rests ∧
    ∀ (i : Nat) (x : V), ps[i]? = some x → ∃ (o : Addr) (c : Str) (s m : Int) (op : Opd) (u : Addr) (y : V), x = .ref o ∧ rs[i]? = some y ∧ H o = some (.tup [.str c, .int s, .int m, op.v, .ref u, y])
  | .nil, ps, h => by
    unfold OfsAt at h
    subst h
    exact ⟨[], rfl, True.intro, fun i x hx => by simp at hx⟩
  | .cons c s m op ns r os, ps, h => by
    unfold OfsAt at h
    obtain ⟨o, u, b, qs, rfl, h2, h3, h4, h5⟩ := h
    obtain ⟨rs, k1, k2, k3⟩ := OfsAt.rests h5
    refine ⟨.ref b :: rs, congrArg (· + 1) k1, ⟨⟨b, rfl, h4⟩, k2⟩, fun i x hx => ?_⟩
    cases i with
    | zero =>
      have e : V.ref o = x := by simpa using hx
      subst e
      exact ⟨o, c, s, m, op, u, .ref b, rfl, rfl, h2⟩
    | succ i =>
      obtain ⟨o', c', s', m', op', u', y', z1, z2, z3⟩ := k3 i x (by simpa using hx)
      exact ⟨o', c', s', m', op', u', y', z1, by simpa using z2, z3⟩
/-- rs: what a process with these parts contains directly -/
def InnOf (C : Addr) (H : Hp) (ps rs : List V) : Pr → Prop
  | .choice os => rs.length = ps.length ∧ InnAt C H rs os.rests ∧
    ∀ (i : Nat) (x : V), ps[i]? = some x → ∃ (o : Addr) (c : Str) (s m : Int) (op : Opd) (u : Addr) (y : V), x = .ref o ∧ rs[i]? = some y ∧ H o = some (.tup [.str c, .int s, .int m, op.v, .ref u, y])
  | .new n k r => ∃ b, ps = [.str n, .int k, .ref b] ∧ rs = [.ref b] ∧ PrAt C H b r
  | .cond l r y n => ∃ b c, ps = [l.v, r.v, .ref b, .ref c] ∧ rs = [.ref b, .ref c] ∧ PrAt C H b y ∧ PrAt C H c n
  | .call n ops => ∃ u, ps = [.str n, .ref u] ∧ rs = [] ∧ H u = some (.tup (ops.map Opd.v))
theorem InnOf.ex {C : Addr} {H H' : Hp} {ps rs : List V} {p : Pr} (e : Ex H H') (h : InnOf C H ps rs p) : InnOf C H' ps rs p := by
  cases p with
  | choice os =>
    obtain ⟨h1, h2, h3⟩ := h
    refine ⟨h1, h2.ex e, fun i x hx => ?_⟩
    obtain ⟨o, c, s, m, op, u, y, z1, z2, z3⟩ := h3 i x hx
    exact ⟨o, c, s, m, op, u, y, z1, z2, e _ _ z3⟩
  | new n k r =>
    obtain ⟨b, h1, h2, h3⟩ := h
    exact ⟨b, h1, h2, h3.ex e⟩
  | cond l r y n =>
    obtain ⟨b, c, h1, h2, h3, h4⟩ := h
    exact ⟨b, c, h1, h2, h3.ex e, h4.ex e⟩
  | call n ops =>
    obtain ⟨u, h1, h2, h3⟩ := h
    exact ⟨u, h1, h2, e _ _ h3⟩
theorem PartsAt.inn {C : Addr} {H : Hp} {ps : List V} {p : Pr} (h : PartsAt C H ps p) : ∃ rs, InnOf C H ps rs p := by
  cases p with
  | choice os =>
    obtain ⟨rs, h1, h2, h3⟩ := OfsAt.rests h
    exact ⟨rs, h1, h2, h3⟩
  | new n k r =>
    obtain ⟨b, h1, h2⟩ := h
    exact ⟨[.ref b], b, h1, rfl, h2⟩
  | cond l r y n =>
    obtain ⟨b, c, h1, h2, h3⟩ := h
    exact ⟨[.ref b, .ref c], b, c, h1, rfl, h2, h3⟩
  | call n ops =>
    obtain ⟨u, h1, h2⟩ := h
    exact ⟨[], u, h1, rfl, h2⟩
theorem InnOf.at {C : Addr} {H : Hp} {ps rs : List V} {p : Pr} (h : InnOf C H ps rs p) : InnAt C H rs p.inner := by
  cases p with
  | choice os => exact h.2.1
  | new n k r =>
    obtain ⟨b, _, rfl, h3⟩ := h
    exact ⟨⟨b, rfl, h3⟩, True.intro⟩
  | cond l r y n =>
    obtain ⟨b, c, _, rfl, h3, h4⟩ := h
    exact ⟨⟨b, rfl, h3⟩, ⟨c, rfl, h4⟩, True.intro⟩
  | call n ops =>
    obtain ⟨u, _, rfl, _⟩ := h
    exact True.intro
theorem InnAt.at_ {C : Addr} {H : Hp} : ∀ {xs : List V} {ps : List Pr} {i : Nat} {x : V}, InnAt C H xs ps → xs[i]? = some x → ∃ a p, x = .ref a ∧ PrAt C H a p ∧ ps[i]? = some p
  | [], _, _, _, _, hx => by simp at hx
  | y :: xs, [], _, _, h, _ => h.elim
  | y :: xs, p :: ps, 0, x, ⟨⟨a, h1, h2⟩, h3⟩, hx => by
    have e : y = x := by simpa using hx
    subst e
    exact ⟨a, p, h1, h2, rfl⟩
  | y :: xs, p :: ps, i + 1, x, ⟨_, h3⟩, hx => by
    obtain ⟨b, q, k1, k2, k3⟩ := InnAt.at_ (i := i) h3 (by simpa using hx)
    exact ⟨b, q, k1, k2, by simpa using k3⟩
end Fs

set_option Elab.async false
set_option linter.all false
set_option maxRecDepth 100000
set_option maxHeartbeats 4000000
/-! An own error over ValueError, by a class between: its __init__ calls super().__init__ with a fixed text, then stores its one argument as the field field. -/
namespace FsB
open PySem PySem.W PySem.Calls PyProof.Rows PySem.HandSPX
abbrev eS : Scope := { kind := .function, names := [(PySem.Str.ofString "self", .local), (PySem.Str.ofString "field", .local), (PySem.Str.ofString "__class__", .free), (PySem.Str.ofString "super", .globalImplicit)], isGenerator := false, isCoroutine := false, more := [] }
abbrev eA (p1 p2 : Pos) : Arguments := { posonlyargs := [], args := [{ arg := "self", annotation := none, pos := p1 }, { arg := "field", annotation := none, pos := p2 }], vararg := none, kwonlyargs := [], kw_defaults := [], kwarg := none, defaults := [] }
abbrev eB (msg : Expr) (p0 p1 p2 p3 p4 p5 p6 p7 p8 : Pos) : List Stmt := [.Expr (.Call (.Attribute (.Call (.Name "super" p0) [] [] p1) "__init__" p2) [msg] [] p3) p4, .Assign [.Attribute (.Name "self" p5) "field" p6] (.Name "field" p7) p8]
/-- the message -/
abbrev eM (z : Str) (q0 : Pos) : Expr := .Constant (.str z) 0 q0
abbrev mroVE : List Value := [.type "ValueError", .type "Exception", .type "BaseException", .type "object"]
/-- what the written part says of the class at C, and of its __init__, at fI -/
structure ErrTxt (prog : Program) (K : Frag) (mg : Str → Option Value) (x : Str) (C fI : Addr) : Prop where
  gC : mg x = some (.ref C)
  cls : ∃ nm q N bs bm sn sub ab col dd k0 k1 k2 k3 k5, K.lookup C = some (excClassObj nm q C N bs bm true sn sub ab col dd k0 k1 k2 k3 k5 "ValueError.__new__") ∧ refsVE bm = true
  ei : excInitIn K C mroVE "ValueError.__new__" = true
  sa : findIn K (.ref C) "__setattr__" = some (some (.builtin "object.__setattr__"))
  noN : findIn K (.ref C) "field" = some none
  iC : findIn K (.ref C) "__init__" = some (some (.ref fI))
  tC : typeIn K (.ref fI) = some (.type "function")
  kC : keepIn K (.ref C) = true
  exC : subIn K (.ref C) (.type "BaseException") = some true
  veC : subIn K (.ref C) (.type "ValueError") = some true
  tyC : typeIn K (.ref C) = some (.type "type")
  slf : mroIn K C (.ref C) = some true
  sup : ks_superIn K C C "__init__" = some (some (.builtin "ValueError.__init__"))
  opq : nsIn K cStatics "thirdparty.any" = some none
  gs : mg "super" = none
  top : (prog.main.scope.names.lookup ("super" : Str)).isSome = false
  fn : ∃ (oc : Value) (od an : Option Addr) (kV doc pm ct : Value) (osl : Array (Option Value)) (qual : Str) (cda cc : Addr) (ccl cl : Value) (cdd cld : Option Addr) (ccs csl : Array (Option Value)) (vs : Array Value) (file : Str) (tf : Tok) (zM : Str) (p1 p2 q0 r0 r1 r2 r3 r4 r5 r6 r7 r8 : Pos),
    K.lookup fI = some ⟨oc, od, .func (ksFn "__init__" qual (eA p1 p2) (eB (eM zM q0) r0 r1 r2 r3 r4 r5 r6 r7 r8) eS .none kV doc pm an (.ref cda) ct cc), osl⟩ ∧ codeIn K (.ref cda) qual = true ∧
    K.lookup cda = some ⟨ccl, cdd, .fields vs, ccs⟩ ∧ vs[2]? = some (.str file tf) ∧ ((prog.main.file : Str) == file) = true ∧ K.lookup cc = some ⟨cl, cld, .cell (some (.ref C)), csl⟩ ∧ zM.length ≤ 1000 ∧ (r2.endLine == r3.line) = true
theorem call_line {o : Expr} {name : Str} {apos pos : Pos} {a : Expr} {env : Env} (hp : (apos.endLine == pos.line) = true) (hs : starEach [a] env = (false, eval a env) :: starEach [] env) : eval (.Call (.Attribute o name apos) [a] [] pos) env = (do
      let ov ← attributeBase o name env (eval o env)
      standAt apos.atName
      let (f, first) ← holding [ov] (getMethod ov name (do return (← importBound o env).getD true))
      callWith pos f first (backTo pos (starEach [a] env)) []) := by
  show (do
      let ov ← attributeBase o name env (eval o env)
      standAt apos.atName
      methodCall o name apos pos env ov 1 (backTo pos (starEach [a] env)) []) = _
  have e : methodCallForm 1 (backTo pos (starEach [a] env)) [] = true := by
    rw [hs]
    rfl
  unfold methodCall
  rw [e]
  unfold methodCallPos calleeOf
  rw [hp]
  simp only [Bool.not_true, Bool.false_or, if_true, pure_bind]
/-- what __init__ leaves of a fresh exception at x, over the heap h -/
structure BtEnd (h h' : Heap) (x C dx t1 : Addr) (v : Value) : Prop where
  keep : ∀ b o, h.get? b = some o → h'.get? b = some o
  obj : h'.get? x = some { cls := .ref C, dict := some dx, data := .fields #[.ref t1, .none, .none, .none, .bool false, .none] }
  dbig : h.objs.size ≤ dx
  dne : dx ≠ x
  ns : h'.Ns1 dx (fun y => if y = "field" then some v else none)
theorem str_len2 (a b : Str) : (a ++ b).length = a.length + b.length := by
  show (a.cps ++ b.cps).size = _
  rw [Array.size_append]
  rfl
theorem len1 (v : Value) : [v].length ≤ sizeLine := by
  rw [sizeLine_eq]
  exact (by decide : 1 ≤ 16777216)
section
variable {prog : Program} {w : World} {A : Around} {E : Value → Shared → Prop} {R : Result → Shared → Prop} {s : Shared} {K : Frag} {mg : Str → Option Value} {x0 : Str} {C fI : Addr}
theorem bt_init (T : ErrTxt prog K mg x0 C fI) {hp : Heap} {x t0 : Addr} {v : Value} (X : K.In hp) (G : hp.Ns mainGlobals mg) (Bl : ∃ mb, hp.Ns builtinsNs mb ∧ mb "super" = some (.type "super")) (hlim : s.heap.NoLimit)
    (k : ∀ b o, hp.get? b = some o → s.heap.get? b = some o) (hsz : hp.objs.size ≤ s.heap.objs.size) (hx : s.heap.get? x = some (excO C t0)) (hxn : hp.get? x = none) (hroom : A.depth < recursionLimit)
    (hq : ∀ h' tk' dx t1, BtEnd hp h' x C dx t1 v → R (.ok (.ret .none)) { s with heap := h', toks := tk' }) :
    codeAny (model prog w) A (.call (.ref fI) ⟨[.ref x, v], []⟩) R s := by
  obtain ⟨oc, od, an, kV, doc, pm, ct, osl, qual, cda, cc, ccl, cl, cdd, cld, ccs, csl, vs, file, tf, zM, p1, p2, q0, r0, r1, r2, r3, r4, r5, r6, r7, r8, ho, hcd, hcode, hvs, hfile, hcell, hM, hline⟩ := T.fn
  obtain ⟨nm, q, N, bs, bm, sn, sub, ab, col, dd, k0, k1, k2, k3, k5, hC, hbm⟩ := T.cls
  obtain ⟨mb, hb, hmb⟩ := Bl
  have hcl : clsIn K C = some { name := nm, bases := bs, mro := .ref C :: bm, ns := N, qualname := q, hasDict := true, slotNames := sn, subclasses := sub, abstract := ab, collection := col, hasDel := false } := by unfold clsIn; rw [hC] <;> rfl
  have Xs : K.In s.heap := X.keeps k
  have noc : ∀ y ∈ eS.names, y.2 ≠ .cell := by decide +kernel
  have locs : ∀ y ∈ [(("self" : Str), Value.ref x), ("field", v)], eS.names.lookup y.1 = some .local := fun y hy => by
    rcases List.mem_cons.mp hy with rfl | hy
    · rfl
    · rw [List.mem_singleton.mp hy]
      rfl
  refine ks_codeAny_call_defAt (body := eB (eM zM q0) r0 r1 r2 r3 r4 r5 r6 r7 r8) (binds := [("self", .ref x), ("field", v)]) hroom (Xs _ _ ho) rfl hlim (codeRec_of Xs hcd) rfl (BindsTo.of_eq (by first | rfl | with_unfolding_all rfl)) noc locs (fun h₁ hns hk₁ => ?_) rfl rfl rfl
  have Fr1 : Fr hp s.heap.objs.size h₁ (fun y => [(("self" : Str), Value.ref x), ("field", v)].reverse.lookup y) := ⟨hns, fun b o e => hk₁ b o (k b o e), hsz⟩
  have N1 : News hp s.heap.objs.size h₁ [(x, excObj C t0 none .none)] := fun p hp' => by
    rw [List.mem_singleton.mp hp']
    exact ⟨hk₁ _ _ hx, Nat.ne_of_lt (Heap.lt_size hx), hxn⟩
  show _root_.PySem.wpAt (model prog w) _ (.func _ (ksEnv qual eS s.heap.objs.size fI (.ref cda) cc)) (execs (eB (eM zM q0) r0 r1 r2 r3 r4 r5 r6 r7 r8) (ksEnv qual eS s.heap.objs.size fI (.ref cda) cc)) _ _ _
  refine ks_wpAt_execs_cons (ks_wpAt_Expr_any (ks_wpAt_MethodCall ?_ (call_line hline rfl)))
  generalize hE : (fun e s' => wpAny (model prog w) _ (leaving _ e) (fun x s'' => R (Except.error e) s'') (fun e' s'' => R (Except.error e') s'') s') = EE
  have X1 : K.In h₁ := X.keeps Fr1.keep
  -- super()
  refine ks_wpAt_super_base (env := ksEnv qual eS s.heap.objs.size fI (.ref cda) cc) rfl rfl rfl rfl (X1 _ _ ho) rfl rfl rfl (X1 _ _ hcode) rfl hvs hfile T.top ?_
  refine ks_loadName_global rfl rfl (loadGlobal_builtin (env := ksEnv qual eS s.heap.objs.size fI (.ref cda) cc) (G.keeps Fr1.keep) T.gs (hb.keeps Fr1.keep) hmb ⟨rfl, ?_⟩)
  refine wpAny_loadName_free rfl rfl rfl ⟨_, X1 _ _ hcell, rfl⟩ ?_
  refine wpAny_loadName_local (v := .ref x) rfl rfl hns rfl ?_
  refine ks_wpAny_isType_cls (X1 _ _ hC) rfl ⟨rfl, ?_⟩
  refine ks_wpAny_call_super (X1 _ _ hC) rfl (hk₁ _ _ hx) rfl (fun c z => by cases z) (looks_mroIn X1 T.slf) (fun h2 hso k2 => ?_)
  obtain ⟨F2, N2, l2⟩ := ks_newsPush (s := ⟨h₁, s.gens, s.drawn, s.toks + 2, s.os⟩) Fr1 N1 rfl hso k2
  -- its __init__, bound
  refine kxs_method kxs_ValueError F2 X N2 (List.mem_cons_self ..) (InstAt.of_exc0 (c2 := .none) (t := t0) N2 (List.mem_cons_of_mem _ (List.mem_cons_self ..))) T.opq T.sup T.veC rfl (fun u h3 F3 N3 l3 => ?_)
  refine kxs_callWith1 N3 (List.mem_cons_self ..) ?_ rfl rfl
  refine Calls.spliced_cons ?_
  show wpAny _ _ (eval (eM zM q0) (ksEnv qual eS s.heap.objs.size fI (.ref cda) cc)) _ _ _
  refine Calls.Constant_str ?_
  refine Calls.spliced_nil ⟨kxs_at N3 (List.mem_cons_self ..), ?_⟩
  have nx1 : h₁.objs.size ≠ x := fun z => Nat.lt_irrefl _ (z ▸ l2 _ (List.mem_cons_self ..) : x < x)
  have nx2 : u ≠ x := fun z => Nat.lt_irrefl _ (z ▸ l3 _ (List.mem_cons_of_mem _ (List.mem_cons_self ..)) : x < x)
  refine kxs_call F3 X N3 PySem.F.excBase_ValueError T.ei (List.mem_cons_self ..) (.tail nx2 (.tail nx1 (.head fun p hp' => by cases hp'))) (len1 _) (fun t' h4 F4 N4 l4 => ?_)
  -- self.field = field
  have X4 : K.In h4 := X.keeps F4.keep
  have hx4 : h4.get? x = some (excO C t') := (N4 (x, excObj C t' none .none) (List.mem_cons_of_mem _ (List.mem_cons_of_mem _ (List.mem_cons_of_mem _ (List.mem_cons_self ..))))).1
  refine wpAt_of_wpAny (wpAny_execs_cons (plainObj_wpAny_Assign_Attribute ?_))
  refine wpAny_Name (wpAny_loadName_local (v := v) rfl rfl F4.ns rfl ?_) rfl
  refine wpAny_Name (wpAny_loadName_local (v := .ref x) rfl rfl F4.ns rfl ?_) rfl
  refine set_plain X4 (ox := excO C t') (od := none) ⟨hx4, rfl, rfl, trivial⟩ T.sa ?_
  refine exc_osa X4 hx4 hcl (show refsVE (.ref C :: bm) = true from hbm) rfl T.noN (fun h5 tk5 dx k5 dn dne hx5 hn5 => ?_)
  have zz : s.heap.objs.size < h4.objs.size := F4.ns.lt
  exact wpAny_execs_nil (hq h5 tk5 dx t' ⟨fun b o e => k5 b o (fun z => by rw [z, hxn] at e; cases e) (F4.keep b o e), hx5, Nat.le_trans hsz (Nat.le_trans (Nat.le_of_lt zz) dn), dne, hn5⟩)
end
end FsB

set_option Elab.async false
set_option linter.all false
set_option maxRecDepth 100000
set_option maxHeartbeats 2000000
/-! Lists of things that stand in the heap; what a list's change leaves. -/
namespace FsK
open PySem PySem.Spec PyProof.Rows L2 Evl FsE FsC FsR Fs
/-- a list may change: what stands in objects and tuples stays -/
structure ExN (H H' : Hp) : Prop where
  ins : ∀ a C dx fs, H a = some (.ins C dx fs) → H' a = some (.ins C dx fs)
  tup : ∀ a xs, H a = some (.tup xs) → H' a = some (.tup xs)
theorem ExN.upd {H : Hp} {l : Addr} {xs ys : List V} (h : H l = some (.lst xs)) : ExN H (upd H l (.lst ys)) := ⟨fun a C dx fs ha => by
    rw [upd_ne (fun z => by rw [z, h] at ha; cases ha)]
    exact ha, fun a xs ha => by
    rw [upd_ne (fun z => by rw [z, h] at ha; cases ha)]
    exact ha⟩
theorem ExN.of {H H' : Hp} (e : Ex H H') : ExN H H' := ⟨fun _ _ _ _ h => e _ _ h, fun _ _ h => e _ _ h⟩
theorem ExN.trans {H H1 H2 : Hp} (e : ExN H H1) (e' : ExN H1 H2) : ExN H H2 := ⟨fun a C dx fs h => e'.ins _ _ _ _ (e.ins _ _ _ _ h), fun a xs h => e'.tup _ _ (e.tup _ _ h)⟩
mutual
theorem PrAt.keep {C : Addr} {H H' : Hp} (e : ExN H H') : ∀ {p : Pr} {a : Addr}, PrAt C H a p → PrAt C H' a p
  | .choice os, a, h => by
    unfold PrAt at h ⊢
    obtain ⟨t, ps, ⟨dx, h1⟩, h2, h3⟩ := h
    exact ⟨t, ps, ⟨dx, e.ins _ _ _ _ h1⟩, e.tup _ _ h2, OfsAt.keep e h3⟩
  | .new n k r, a, h => by
    unfold PrAt at h ⊢
    obtain ⟨t, b, ⟨dx, h1⟩, h2, h3⟩ := h
    exact ⟨t, b, ⟨dx, e.ins _ _ _ _ h1⟩, e.tup _ _ h2, PrAt.keep e h3⟩
  | .cond l r y n, a, h => by
    unfold PrAt at h ⊢
    obtain ⟨t, b, c, ⟨dx, h1⟩, h2, h3, h4⟩ := h
    exact ⟨t, b, c, ⟨dx, e.ins _ _ _ _ h1⟩, e.tup _ _ h2, PrAt.keep e h3, PrAt.keep e h4⟩
  | .call n ops, a, h => by
    unfold PrAt at h ⊢
    obtain ⟨t, u, ⟨dx, h1⟩, h2, h3⟩ := h
    exact ⟨t, u, ⟨dx, e.ins _ _ _ _ h1⟩, e.tup _ _ h2, e.tup _ _ h3⟩
theorem OfsAt.keep {C : Addr} {H H' : Hp} (e : ExN H H') : ∀ {os : Ofs} {ps : List V}, OfsAt C H ps os → OfsAt C H' ps os
  | .nil, ps, h => by
    unfold OfsAt at h ⊢
    exact h
  | .cons c s m op ns r os, ps, h => by
    unfold OfsAt at h ⊢
    obtain ⟨o, u, b, qs, h1, h2, h3, h4, h5⟩ := h
    exact ⟨o, u, b, qs, h1, e.tup _ _ h2, e.tup _ _ h3, PrAt.keep e h4, OfsAt.keep e h5⟩
end
/-- item by item -/
def LsA {α : Type} (R : Hp → V → α → Prop) (H : Hp) : List V → List α → Prop
  | [], [] => True
  | v :: vs, x :: xs => R H v x ∧ LsA R H vs xs
  | _, _ => False
section
variable {α : Type} {R : Hp → V → α → Prop} {H H' : Hp}
theorem LsA.imp (e : ∀ v x, R H v x → R H' v x) : ∀ {vs : List V} {xs : List α}, LsA R H vs xs → LsA R H' vs xs
  | [], [], _ => True.intro
  | _ :: _, _ :: _, h => ⟨e _ _ h.1, LsA.imp e h.2⟩
  | [], _ :: _, h => h.elim
  | _ :: _, [], h => h.elim
theorem LsA.append : ∀ {vs ws : List V} {xs ys : List α}, LsA R H vs xs → LsA R H ws ys → LsA R H (vs ++ ws) (xs ++ ys)
  | [], _, [], _, _, g => g
  | _ :: _, _, _ :: _, _, h, g => ⟨h.1, LsA.append h.2 g⟩
  | [], _, _ :: _, _, h, _ => h.elim
  | _ :: _, _, [], _, h, _ => h.elim
theorem LsA.snoc {v : V} {x : α} {vs : List V} {xs : List α} (h : LsA R H vs xs) (hv : R H v x) : LsA R H (vs ++ [v]) (xs ++ [x]) := h.append ⟨hv, True.intro⟩
theorem LsA.length : ∀ {vs : List V} {xs : List α}, LsA R H vs xs → vs.length = xs.length
  | [], [], _ => rfl
  | _ :: _, _ :: _, h => congrArg (· + 1) (LsA.length h.2)
  | [], _ :: _, h => h.elim
  | _ :: _, [], h => h.elim
theorem LsA.get : ∀ {vs : List V} {xs : List α} {i : Nat} {v : V}, LsA R H vs xs → vs[i]? = some v → ∃ x, xs[i]? = some x ∧ R H v x
  | _ :: _, x :: _, 0, v, h, e => ⟨x, rfl, by cases e; exact h.1⟩
  | _ :: _, _ :: _, i + 1, v, h, e => LsA.get (i := i) h.2 e
  | [], _, _, _, _, e => by simp at e
  | _ :: _, [], _, _, h, _ => h.elim
theorem LsA.at_ {vs : List V} {xs : List α} {i : Nat} (h : LsA R H vs xs) (hi : i < vs.length) : ∃ v x, vs[i]? = some v ∧ xs[i]? = some x ∧ R H v x := by
  obtain ⟨x, h1, h2⟩ := LsA.get h (List.getElem?_eq_getElem hi)
  exact ⟨_, x, List.getElem?_eq_getElem hi, h1, h2⟩
end
/-- it evaluates to something with this word -/
def EvS (te : TE) (σ : L2.St) (H : Hp) (Pv : V → Hp → Prop) : Prop := ∀ H1, Ex H H1 → ∀ Q : VK, (∀ v H2, Ex H1 H2 → Pv v H2 → Q v H2) → te σ H1 Q
section
variable {σ : L2.St} {H : Hp} {te ta : TE} {Pv : V → Hp → Prop} {K : PySem.W.Frag} {D : Ends} {tz : TS}
theorem s_appS {l : Addr} {xs : List V} (hl : H l = some (.lst xs)) (ha : Ev ta σ H (.ref l)) (h : EvS te σ H Pv) (hz : xs.length < 100000) (k : ∀ v H1, Ex H H1 → Pv v H1 → D.nx σ (upd H1 l (.lst (xs ++ [v])))) :
    tDrop (tBM K "list" rAppend ta (tCons te tNil)) D σ H := ha H (Ex.refl H) _ fun H1 e1 =>
  ⟨Or.inl ⟨rfl, xs, sq_of (e1 l _ hl)⟩, h H1 e1 _ fun v H2 e2 hv => ⟨l, xs, v, rfl, rfl, e2 l _ (e1 l _ hl), sz_lt hz, k v H2 (e1.trans e2) hv⟩⟩
theorem q_asgS {i : Nat} (h : EvS te σ H Pv) (k : ∀ v H1, Ex H H1 → Pv v H1 → tz D (σ.set i (some v)) H1) : tSeq (tAsg te (gName i)) tz D σ H := h H (Ex.refl H) _ fun v H1 e1 hv => k v H1 e1 hv
theorem s_retS (h : EvS te σ H Pv) (k : ∀ v H1, Ex H H1 → Pv v H1 → D.rt v H1) : tRet te D σ H := h H (Ex.refl H) _ fun v H1 e1 hv => k v H1 e1 hv
/-- a slice of a new list -/
theorem el_slN {tl th : TO} {xs : List V} {lo hi : Option Int} (h : EvL te σ H xs) (h1 : EvO tl σ H lo) (h2 : EvO th σ H hi) : EvL (tSl (rSlL K) te tl th) σ H (cutV xs lo hi) := fun H1 e Q q =>
  h H1 e _ fun a H2 ha e2 h2' => h1 H2 (e.trans e2) _ fun H3 e3 => h2 H3 ((e.trans e2).trans e3) _ fun H4 e4 =>
    ⟨a, xs, rfl, sq_of ((e3.trans e4) _ _ h2'), fun p hp => q p _ (fresh_back ((e2.trans e3).trans e4) hp) (((e2.trans e3).trans e4).trans (Ex.new hp)) upd_same⟩
end
end FsK

set_option Elab.async false
set_option linter.all false
set_option maxRecDepth 100000
set_option maxHeartbeats 2000000
/-! o[i] and len(o) by an own class's __getitem__ and __len__; d.update(e); a statement that is never met. -/
namespace FsR
open PySem PySem.Spec PyProof.Rows L2
theorem run_atS {X : Cx} {CX : CXT} {k : Nat} {f : Addr} {fd : FuncData} {ps : List Str} {sp : Sp} {E : L2.St → XK} {pins : List (Addr × Obj)} {σ : L2.St} {H : Hp} {s : Shared} {Q : VK} {us : List Value} {vs : List V} {A : Around} (F : FnOk X.prog X.w X.K X.mg X.base CX k f fd ps sp) (hr : Room k A)
    (he : Env0 X.prog X.w X.K X.mg X.base A X.stack s H) (hb : Binds X.K fd ps []) (hx : PassesAt CX X σ (E σ))
    (I : Inv X pins σ H s) (r : Vals vs us) (h : sp vs H Q (E σ)) : wpAny (model X.prog X.w) A (call (.ref f) us) (EP X pins σ Q) X.xe s := by
  have hl : us.length = ps.length := by rw [← r.length]; exact F.len _ _ _ _ h
  have b := hb s us I.kIn (by rw [List.append_nil]; exact hl)
  rw [List.append_nil] at b
  refine wpAny_call (codeAny_mono (F.run A X.stack s H ⟨us, []⟩ us vs Q (E σ) hr he b r h) fun r s' hq => ?_)
  cases r with
  | error e => exact hx pins H s e s' I hq
  | ok fl =>
    cases fl with
    | ret u => exact I.after hq
    | next => exact False.elim hq
    | brk => exact False.elim hq
    | cont => exact False.elim hq
structure IxM (K : PySem.W.Frag) (C : Addr) (g : Addr) : Prop where
  at_ : PySem.W.findIn K (.ref C) "__getitem__" = some (some (.ref g))
  fn : PySem.W.isFn K (.ref g) = true
  fi : PySem.W.fnIn K g = true
/-- o[i] -/
def tIxO (C : Addr) (sp : Sp) (E : L2.St → XK) (ta tb : TE) : TE := fun σ H Q => ta σ H fun x H1 => tb σ H1 fun y H2 => ∃ (a dx : Addr) (fs : List (Str × V)), x = .ref a ∧ H2 a = some (.ins C dx fs) ∧ sp [.ref a, y] H2 Q (E σ)
theorem pe_ixO {X : Cx} {CX : CXT} {k : Nat} {C g : Addr} {fd : FuncData} {ps : List Str} {sp : Sp} {E : L2.St → XK} {ea eb : Expr} {pos : Pos} {ta tb : TE} (ha : PE X ea ta) (hb : PE X eb tb) (M : IxM X.K C g) (F : FnOk X.prog X.w X.K X.mg X.base CX k g fd ps sp) (hr : Room (k + 1) X.A) (hd : Binds X.K fd ps [])
    (hx : ∀ σ, PassesAt CX X σ (E σ)) (hsl : ∀ v i, subscripted eb true v i = runValue (.builtin "lifetime.subscript" ⟨[v, i], []⟩) := by intro _ _; with_unfolding_all rfl) : PE X (.Subscript ea eb pos) (tIxO C sp E ta tb) := by
  refine ⟨fun pins s σ H Q I h => ?_⟩
  refine Subscript_ (binT ha hb I h fun v u s2 x y H2 I2 rx ry q => ?_)
  obtain ⟨a, dx, fs, rfl, h1, q⟩ := q
  obtain rfl : v = Value.ref a := rx
  obtain ⟨_, O1, _, _, _, _⟩ := ins_get I2.hok h1
  obtain ⟨_, i1, _⟩ := O1.look
  obtain ⟨m, fr⟩ := I2.fr
  refine PySem.W.sub_K fr I2.ok.mod.kin i1 M.at_ M.fi M.fn ?_ (hsl _ _)
  exact run_atS (us := [.ref a, u]) (vs := [.ref a, y]) F hr.in1 I2.env0.in1 hd (hx σ) I2 (.cons rfl (.cons ry .nil)) q
structure LenM (K : PySem.W.Frag) (C : Addr) (g : Addr) : Prop where
  at_ : PySem.W.findIn K (.ref C) "__len__" = some (some (.ref g))
  fn : PySem.W.isFn K (.ref g) = true
/-- len(o) -/
def rLenO (C : Addr) (sp : Sp) (E : XK) : List V → Hp → VK → Prop := fun xs H Q => ∃ (a dx : Addr) (fs : List (Str × V)), xs = [.ref a] ∧ H a = some (.ins C dx fs) ∧ sp [.ref a] H (fun v H' => ∃ n : Nat, v = .int (n : Int) ∧ (n : Int) < 2 ^ 63 ∧ Q (.int (n : Int)) H') E
theorem call_lenO {X : Cx} {CX : CXT} {k : Nat} {C g : Addr} {fd : FuncData} {ps : List Str} {sp : Sp} {E : XK} (M : LenM X.K C g) (F : FnOk X.prog X.w X.K X.mg X.base CX k g fd ps sp) (hr : Room (k + 1) X.A) (hd : Binds X.K fd ps [])
    (hx : ∀ σ, PassesAt CX X σ E) : CallR X (.builtin "len") (rLenO C sp E) := by
  intro pins s σ H xs us Q I r h
  obtain ⟨a, dx, fs, rfl, h1, q⟩ := h
  obtain ⟨u, rfl, ru⟩ := vals1 r
  obtain rfl : u = Value.ref a := ru
  obtain ⟨_, O1, _, _, _, _⟩ := ins_get I.hok h1
  obtain ⟨_, i1, _⟩ := O1.look
  obtain ⟨m, fr⟩ := I.fr
  refine PySem.W.len_K fr I.ok.mod.kin i1 M.at_ M.fn (wpAny_mono (run_atS (E := fun _ => E) (us := [.ref a]) (vs := [.ref a]) F hr.in1 I.env0.in1 hd (hx σ) I (.cons rfl .nil) q) (fun w s' z => ?_) fun _ _ x => x)
  obtain ⟨v, H', J, rv, n, ev, hn, q'⟩ := z
  subst ev
  obtain ⟨t, rfl⟩ := rv
  exact ⟨⟨by omega, hn⟩, .int (n : Int), H', J.tok _, ⟨_, rfl⟩, q'⟩
/-- d.update(e) -/
def rUpd : V → List V → Hp → VK → Prop := fun x vs H Q => ∃ (d o : Addr) (kvs more : List (Key × V)), x = .ref d ∧ vs = [.ref o] ∧ d ≠ o ∧ H d = some (.dK kvs) ∧ H o = some (.dK more) ∧ kvs.length + more.length ≤ 100000 ∧ Q .non (upd H d (.dK (mergeK kvs more)))
theorem mt_update {X : Cx} : MtR X "dict.update" rUpd := by
  intro pins s σ H x xs v us Q I rx rv h
  obtain ⟨d, o, kvs, more, rfl, rfl, hne, hd, ho, hz, q⟩ := h
  obtain rfl : v = Value.ref d := rx
  obtain ⟨u, rfl, ru⟩ := vals1 rv
  obtain rfl : u = Value.ref o := ru
  obtain ⟨z1, y1, v1, r1, d1⟩ := dk_of I.hok hd
  obtain ⟨z2, y2, v2, r2, d2⟩ := dk_of I.hok ho
  have hl : v1.length + v2.length ≤ sizeLine := by
    rw [← r1.length, ← r2.length, sizeLine_eq]
    omega
  refine call_meetsIn PySem.F.slot_dict_update d1.typeIs PySem.F.entry_dict_update (PySem.F.args_dict_update_2 _ _) (meets_dict_update (mixKind X.prog X.w) d o hne y2)
    ⟨v1, v2, d1, d2, hl, fun h' dd' _ hs => ?_⟩
  have he : ∃ q, h'.get? d = some q := let ⟨q, _, _, hq, _⟩ := dd'; ⟨q, hq⟩
  refine ⟨.non, _, d_write I (by rw [hd]; exact True.intro) hs he (dk_new ?_ y1 (r2.merge r1) dd'), rfl, q⟩
  have := length_mergeK more kvs
  rw [sizeLine_eq]
  omega
end FsR

set_option Elab.async false
set_option linter.all false
set_option maxRecDepth 100000
set_option maxHeartbeats 2000000
/-! name = {k: v for ..} on one line. -/
namespace L2
open PySem PySem.Spec PyProof.Rows
theorem ps_setDc {X : Cx} {i : Nat} {y : Str} {py : Pos} {kx vx tg iter : Expr} {ifs : List Expr} {scope : Scope} {own : List (Str × Nat)} {pos spos : Pos} {wi : TI} {g : TG} {tt : TT} {tk tv : TE} (hc : X.calm = true) (hN : X.N.Nodup) (hy : X.N[i]? = some y) (hyl : X.env.scope.names.lookup y = some .local)
    (hsw : swapsWith (.DictComp kx vx [⟨tg, iter, ifs, 0⟩] scope pos) (some (.Name y py)) spos.line X.env = pure true) (hi : PI X tg iter wi) (ok : BlkOk X.N X.env.scope scope own)
    (hg : ∀ (s : Shared) (H : Hp) (C : Addr) (cl : List (Str × Addr)) (fp : List Addr), PG (X.blk s H scope (compEnvC scope cl C X.env) fp) tg g) (ht : ∀ (s : Shared) (H : Hp) (C : Addr) (cl : List (Str × Addr)) (fp : List Addr), PTs (X.blk s H scope (compEnvC scope cl C X.env) fp) ifs tt)
    (hk : ∀ (s : Shared) (H : Hp) (C : Addr) (cl : List (Str × Addr)) (fp : List Addr), PE (X.blk s H scope (compEnvC scope cl C X.env) fp) kx tk)
    (he : ∀ (s : Shared) (H : Hp) (C : Addr) (cl : List (Str × Addr)) (fp : List Addr), PE (X.blk s H scope (compEnvC scope cl C X.env) fp) vx tv) (hs : ∀ x, foldedSetIterable iter X.env x = pure x := by intro _; rfl) :
    PS X (.Assign [.Name y py] (.DictComp kx vx [⟨tg, iter, ifs, 0⟩] scope pos) spos) (tAsg (tDc wi g tt tk tv (own.map (·.2))) (gName i)) := by
  refine ⟨fun pins s σ H D I h => ?_⟩
  rw [exec_Assign_Name_used _ _ _ _ hsw]
  refine wpAny_bind (wpAny_standAt (wpAny_bind ?_))
  show wpAny _ X.A (do let _ ← comprehension (.DictComp kx vx [⟨tg, iter, ifs, 0⟩] scope pos) scope X.env (firstIterPos [⟨tg, iter, ifs, 0⟩] pos) newDict false (eval iter X.env) (some (assign (.Name y py) X.env))) _ _ s
  have h : tDc wi g tt tk tv (own.map (·.2)) σ H (fun x H1 => gName i x σ H1 D.nx) := h
  refine wpAny_bind (thn (dc_core (Qf := fun _ s' => SP X pins D .next s') hc hN I hi ok hg ht hk he hs h fun L C s' m H' I' q hn f => ?_) fun _ s' hq => wpAny_pure (wpAny_pure hq))
  show wpAny _ _ (assign (.Name y py) X.env (.ref L)) _ _ _
  refine wpAny_assign_Name (store_ok2 (v := V.ref L) I' hN hy (.inl hyl) rfl (fun s2 I2 ⟨a, sb, ha⟩ => ?_) (.inr hyl))
  obtain ⟨f0, f1, f2, f3, f4, f5⟩ := f
  have haC : C ≠ a := by
    rcases ha with z | z
    · rw [z]; exact f1
    · exact fun e => f4 y a z e.symm
  refine ⟨m, hn.sameBut sb haC, fun h3 sb3 => ?_⟩
  exact ⟨_, H', I2.turned (t' := s2.toks) (fun b o hb e => (sb3.2 b hb).trans e) f0 f1 f3 f4 f5, q⟩
theorem sw_trueD {kx vx : Expr} {gs : List Comprehension} {scope : Scope} {pos py : Pos} {y : Str} {l : Nat} {env : Env} (hk : env.scope.kind = .function) (hy : env.scope.names.lookup y = some .local) (hl : (py.line == pos.line) = true)
    (ha : (scope.names.any fun (n, k) => n == y && (k == .local || k == .cell)) = false) : swapsWith (.DictComp kx vx gs scope pos) (some (.Name y py)) l env = pure true := by
  have ky : env.kindOf y = some .local := hy
  have hb : env.blockKind = .function := by unfold Env.blockKind; rw [hk]; rfl
  unfold swapsWith
  simp only [hb, ky, ha, Expr.pos, hl]
  rfl
end L2

set_option Elab.async false
set_option linter.all false
set_option maxRecDepth 100000
set_option maxHeartbeats 2000000
/-! xs != [], xs == []. -/
namespace FsR
open PySem PySem.Spec PyProof.Rows L2 Evl
def rNeNil (K : PySem.W.Frag) : R2 := fun x y H Q => ∃ (a b : Addr) (xs : List V), x = .ref a ∧ y = .ref b ∧ SqL K H a xs ∧ SqL K H b [] ∧ Q (.bl (!xs.isEmpty)) H
theorem op_neNil {X : Cx} (hu : X.A.units < cLine) : OpR X (compareOp .NotEq) (rNeNil X.K) := by
  intro pins s σ H x y v u Q I rx ry h
  obtain ⟨a, b, xs, rfl, rfl, ha, hb, q⟩ := h
  obtain rfl : v = Value.ref a := rx
  obtain rfl : u = Value.ref b := ry
  obtain ⟨us, r1, p1, _⟩ := I.list ha
  obtain ⟨ws, r2, p2, _⟩ := I.list hb
  have hws : ws = [] := by
    cases r2
    rfl
  subst hws
  cases r1 with
  | nil =>
    refine SeqAt.RcNeAt.lists (e := fun _ => true) p1.isList p2.isList rfl hu (fun j h1 _ => by simp at h1) X.prog X.w X.xe _ ?_
    exact ⟨.bl false, H, I, rfl, q⟩
  | cons r rs =>
    refine SeqAt.RcNeAt.lists_lengths p1.isList p2.isList (by simp) hu X.prog X.w X.xe _ ?_
    exact ⟨.bl true, H, I, rfl, q⟩
def rEqNil (K : PySem.W.Frag) : R2 := fun x y H Q => ∃ (a b : Addr) (xs : List V), x = .ref a ∧ y = .ref b ∧ SqL K H a xs ∧ SqL K H b [] ∧ Q (.bl xs.isEmpty) H
theorem op_eqNil {X : Cx} (hu : X.A.units < cLine) : OpR X (compareOp .Eq) (rEqNil X.K) := by
  intro pins s σ H x y v u Q I rx ry h
  obtain ⟨a, b, xs, rfl, rfl, ha, hb, q⟩ := h
  obtain rfl : v = Value.ref a := rx
  obtain rfl : u = Value.ref b := ry
  obtain ⟨us, r1, p1, _⟩ := I.list ha
  obtain ⟨ws, r2, p2, _⟩ := I.list hb
  have hws : ws = [] := by
    cases r2
    rfl
  subst hws
  cases r1 with
  | nil =>
    refine SeqAt.RcAt.lists (e := fun _ => true) p1.isList p2.isList rfl hu (fun j h1 _ => by simp at h1) X.prog X.w X.xe _ ?_
    exact ⟨.bl true, H, I, rfl, q⟩
  | cons r rs =>
    refine SeqAt.RcAt.lists_lengths p1.isList p2.isList (by simp) hu X.prog X.w X.xe _ ?_
    exact ⟨.bl false, H, I, rfl, q⟩
theorem rv_neNil {K : PySem.W.Frag} {H : Hp} {a b : Addr} {xs : List V} (ha : SqL K H a xs) (hb : SqL K H b []) : RV (rNeNil K) (.ref a) (.ref b) H (.bl (!xs.isEmpty)) := fun H1 e _ q => ⟨a, b, xs, rfl, rfl, ex_l e ha, ex_l e hb, q H1 (Ex.refl H1)⟩
theorem rv_eqNil {K : PySem.W.Frag} {H : Hp} {a b : Addr} {xs : List V} (ha : SqL K H a xs) (hb : SqL K H b []) : RV (rEqNil K) (.ref a) (.ref b) H (.bl xs.isEmpty) := fun H1 e _ q => ⟨a, b, xs, rfl, rfl, ex_l e ha, ex_l e hb, q H1 (Ex.refl H1)⟩
end FsR
namespace FsR
open PySem PySem.Spec PyProof.Rows L2 Evl
/-- xs != ys, the same objects in both -/
def rNeSame (K : PySem.W.Frag) : R2 := fun x y H Q => ∃ (a b : Addr) (xs : List V), x = .ref a ∧ y = .ref b ∧ SqL K H a xs ∧ SqL K H b xs ∧ (∀ v ∈ xs, ∃ c, v = V.ref c) ∧ Q (.bl false) H
theorem vals_refs : ∀ {xs : List V} {us ws : List Value}, (∀ v ∈ xs, ∃ c, v = V.ref c) → Vals xs us → Vals xs ws → us = ws
  | _, _, _, _, .nil, .nil => rfl
  | x :: xs, _ :: _, _ :: _, h, .cons r rs, .cons t ts => by
    obtain ⟨c, rfl⟩ := h x List.mem_cons_self
    cases r
    cases t
    rw [vals_refs (fun v hv => h v (List.mem_cons_of_mem _ hv)) rs ts]
theorem op_neSame {X : Cx} (hu : X.A.units < cLine) : OpR X (compareOp .NotEq) (rNeSame X.K) := by
  intro pins s σ H x y v u Q I rx ry h
  obtain ⟨a, b, xs, rfl, rfl, ha, hb, hx, q⟩ := h
  obtain rfl : v = Value.ref a := rx
  obtain rfl : u = Value.ref b := ry
  obtain ⟨us, r1, p1, _⟩ := I.list ha
  obtain ⟨ws, r2, p2, _⟩ := I.list hb
  have e := vals_refs hx r1 r2
  subst e
  refine SeqAt.RcNeAt.lists (e := fun _ => true) p1.isList p2.isList rfl hu (fun j h1 _ => SeqAt.EqAt.same _) X.prog X.w X.xe _ ?_
  refine ⟨.bl false, H, I, ?_, q⟩
  show Value.bool _ = Value.bool false
  simp
theorem rv_neSame {K : PySem.W.Frag} {H : Hp} {a b : Addr} {xs : List V} (ha : SqL K H a xs) (hb : SqL K H b xs) (hx : ∀ v ∈ xs, ∃ c, v = V.ref c) : RV (rNeSame K) (.ref a) (.ref b) H (.bl false) := fun H1 e _ q => ⟨a, b, xs, rfl, rfl, ex_l e ha, ex_l e hb, hx, q H1 (Ex.refl H1)⟩
end FsR

set_option Elab.async false
set_option linter.all false
set_option maxRecDepth 100000
set_option maxHeartbeats 2000000
namespace Fs
open PySem L2 Evl FsE FsC
def topS (i : Nat) : Stmt := PySem.Challenge.pw_fullseats_k34_dependence.main.body.getD i (.Pass ⟨0, 0, 0, 0⟩)
structure LawT (K : PySem.W.Frag) (mg : Str → Option Value) : Prop where
  len : mg "len" = none
  int : mg "int" = none
  abs : mg "abs" = none
  range : mg "range" = none
section
variable {P : Program} {w : World} {K : PySem.W.Frag} {mg : Str → Option Value} {base : Heap}
theorem rc_int {K : PySem.W.Frag} {i : Int} {H : Hp} : RC (fun xs H Q => (∃ i, xs = [V.int i] ∧ Q (.int i) H) ∨ ∃ k, xs = [V.bl k] ∧ Q (.int (if k then 1 else 0)) H) [.int i] H (.int i) := fun H1 _ Q q => .inl ⟨i, rfl, q H1 (Ex.refl H1)⟩
/-- _law_cell_at(script, k): some int -/
def spCellAt (K : PySem.W.Frag) : Sp := fun vs H Q _ => ∃ (a : Addr) (ns : List Int) (k : Nat), vs = [.ref a, .int (k : Int)] ∧ SqL K H a (ns.map V.int) ∧ ∀ i : Int, RetV (.int i) H Q
theorem scCellAt : FnScope ["_law_script", "_law_k"] ["_law_script", "_law_k"] (defScope (topS 15)) := ⟨rfl, rfl, rfl, by decide +kernel, rfl, by decide +kernel, by decide +kernel⟩
theorem ok_cell_at {f : Addr} {fd : FuncData} (F : Fun K "_law_cell_at" "_law_cell_at" (topS 15) f fd) (T : LawT K mg) : FnOk P w K mg base CX0 1 f fd ["_law_script", "_law_k"] (spCellAt K) := by
  refine F.ok scCellAt (fun vs H Q E h => ?_) (fun cdv A outer s H vs Q E hr h => ?_)
  · obtain ⟨a, ns, k, rfl, _⟩ := h
    rfl
  · obtain ⟨a, ns, k, rfl, hS, q⟩ := h
    refine ⟨_, pss_cons (ps_if (pt_cmpR op_lt (pv 1) (pe_callB call_len_seq (by rfl) T.len PySem.boot_len (pa_cons (pv 0) pa_nil)) (nomark _)) (pss_one (ps_ret (pe_ix ix_list (pv 0) (pv 1) (fun _ _ => rfl)))) pss_nil) (pss_one (ps_ret pe_int)), ?_⟩
    refine q_when (b := decide ((k : Int) < ((ns.map V.int).length : Nat))) (et_test (ev_op (ev_var rfl) (ev_cb (ea_cons (ev_var rfl) ea_nil) (fun H2 e2 Q' q' => ⟨a, _, rfl, .inl (ex_l e2 hS), q' H2 (Ex.refl H2)⟩)) rv_I0)) (fun hb H1 e1 => ?_) (fun hb H1 e1 => ?_)
    · have hk : k < ns.length := by
        have : (k : Int) < ((ns.map V.int).length : Nat) := by simpa using hb
        rw [List.length_map] at this
        omega
      refine s_ret (v := .int ns[k]) (ev_op (ev_var rfl) (ev_var rfl) (rv_ixL (ex_l e1 hS) (atI_nat (by rw [List.getElem?_map, List.getElem?_eq_getElem hk]; rfl)))) (fun H2 e2 => q _ H2 (e1.trans e2))
    · exact s_ret ev_c (fun H2 e2 => q _ H2 (e1.trans e2))
/-- _law_mixed(cell, k): some int -/
def spMixed : Sp := fun vs H Q _ => ∃ (c : Int) (k : Nat), vs = [.int c, .int (k : Int)] ∧ k ≤ 1000 ∧ ∀ i : Int, RetV (.int i) H Q
theorem scMixed : FnScope ["_law_cell", "_law_k", "_law_spread"] ["_law_cell", "_law_k"] (defScope (topS 16)) := ⟨rfl, rfl, rfl, by decide +kernel, rfl, by decide +kernel, by decide +kernel⟩
theorem ok_mixed {f : Addr} {fd : FuncData} (F : Fun K "_law_mixed" "_law_mixed" (topS 16) f fd) (T : LawT K mg) : FnOk P w K mg base CX0 1 f fd ["_law_cell", "_law_k"] spMixed := by
  refine F.ok scMixed (fun vs H Q E h => ?_) (fun cdv A outer s H vs Q E hr h => ?_)
  · obtain ⟨c, k, rfl, _⟩ := h
    rfl
  · obtain ⟨c, k, rfl, hk, q⟩ := h
    refine ⟨_, pss_cons (ps_set (i := 2) scMixed.nd rfl (Or.inl rfl) (pe_op op_mod (pe_callTy call_int1 (by rfl) T.int (by decide +kernel) (pa_cons (pe_op op_pow (pe_op op_add (pe_op op_add (pe_op op_mod (pe_callTy call_int1 (by rfl) T.int (by decide +kernel) (pa_cons (pv 0) pa_nil)) pe_int) (pe_op op_mul pe_int (pv 1))) pe_int) pe_int) pa_nil)) pe_int))
      (pss_one (ps_ret (pe_op op_mod (pe_callTy call_int1 (by rfl) T.int (by decide +kernel) (pa_cons (pe_op op_mul (pe_op op_add (pv 2) (pv 1)) pe_int) pa_nil)) pe_int))), ?_⟩
    have h1 := Int.emod_nonneg c (b := 2147483647) (by decide)
    have h2 := Int.emod_lt_of_pos c (b := 2147483647) (by decide)
    refine ⟨.int c, rfl, .inl ⟨c, rfl, c, 2147483647, rfl, rfl, (by decide : (0 : Int) < 2147483647), ?_⟩⟩
    refine ⟨.int (k : Int), rfl, 7919, (k : Int), rfl, rfl, .inl ⟨by decide, by decide⟩, ?_⟩
    refine ⟨c % 2147483647, 7919 * (k : Int), rfl, rfl, c % 2147483647 + 7919 * (k : Int), 104729, rfl, rfl, ?_⟩
    refine ⟨c % 2147483647 + 7919 * (k : Int) + 104729, 5, rfl, rfl, ⟨by decide, by decide, by omega⟩, ?_⟩
    refine .inl ⟨_, rfl, _, 2147483647, rfl, rfl, (by decide : (0 : Int) < 2147483647), ?_⟩
    refine ⟨_, rfl, .int (k : Int), rfl, _, (k : Int), rfl, rfl, _, 40692, rfl, rfl, .inr ⟨by decide, by decide⟩, ?_⟩
    refine .inl ⟨_, rfl, _, 2147483629, rfl, rfl, (by decide : (0 : Int) < 2147483629), ?_⟩
    exact q _ H (Ex.refl H)
/-- _law_row(cell, many): so many ints from 0 to 999 -/
def RowOk (row : List Int) : Prop := ∀ v ∈ row, 0 ≤ v ∧ v < 1000
def spRow : Sp := fun vs H Q _ => ∃ (c : Int) (n : Nat), vs = [.int c, .int (n : Int)] ∧ n ≤ 500 ∧ ∀ row : List Int, row.length = n → RowOk row → RetL (row.map V.int) H Q
theorem scRow : FnScope ["_law_cell", "_law_many", "_law_row_here", "_law_rest", "_law_k"] ["_law_cell", "_law_many"] (defScope (topS 17)) := ⟨rfl, rfl, rfl, by decide +kernel, rfl, by decide +kernel, by decide +kernel⟩
theorem rowOk_add {row : List Int} {v : Int} (h : RowOk row) (h0 : 0 ≤ v) (h1 : v < 1000) : RowOk (row ++ [v]) := fun x hx => by
  rcases List.mem_append.mp hx with hx | hx
  · exact h x hx
  · rw [List.mem_singleton.mp hx]
    exact ⟨h0, h1⟩
theorem ok_row {f : Addr} {fd : FuncData} (F : Fun K "_law_row" "_law_row" (topS 17) f fd) (T : LawT K mg) (GM : CalX P w K mg base CX0 1 "_law_mixed" spMixed) : FnOk P w K mg base CX0 2 f fd ["_law_cell", "_law_many"] spRow := by
  refine F.ok scRow (fun vs H Q E h => ?_) (fun cdv A outer s H vs Q E hr h => ?_)
  · obtain ⟨c, n, rfl, _⟩ := h
    rfl
  · obtain ⟨c, n, rfl, hn, q⟩ := h
    refine ⟨_, pss_cons (ps_set (i := 2) scRow.nd rfl (Or.inl rfl) (pe_lst pa_nil))
      (pss_cons (ps_set (i := 3) scRow.nd rfl (Or.inl rfl) pe_int)
      (pss_cut (ps_if (pt_cmpR op_ge (pe_callB call_abs (by rfl) T.abs (by decide +kernel) (pa_cons (pv 0) pa_nil)) (pe_op op_pow pe_int pe_int) (nomark _)) (pss_one (ps_set (i := 3) scRow.nd rfl (Or.inl rfl) (pe_callB call_abs (by rfl) T.abs (by decide +kernel) (pa_cons (pv 0) pa_nil)))) pss_nil)
      (pss_cons (ps_for PassesOwn.never rfl (pi_range1 rfl T.range (pa_cons (pv 1) pa_nil)) (pg_name (i := 4) scRow.nd rfl (Or.inl rfl))
        (pss_one (ps_if (pt_cmpR op_gt (pv 3) pe_int (nomark _))
          (pss_cons (ps_expr (pe_bm PySem.F.plainAttrs_list PySem.F.slot_list_append PySem.F.type_list_append mt_append (pv 2) (pa_cons (pe_op op_mod (pe_callTy call_int1 (by rfl) T.int (by decide +kernel) (pa_cons (pv 3) pa_nil)) pe_int) pa_nil)))
            (pss_one (ps_set (i := 3) scRow.nd rfl (Or.inl rfl) (pe_op op_fdiv (pv 3) pe_int))))
          (pss_one (ps_expr (pe_bm PySem.F.plainAttrs_list PySem.F.slot_list_append PySem.F.type_list_append mt_append (pv 2) (pa_cons (pe_op op_mod (pe_callTy call_int1 (by rfl) T.int (by decide +kernel) (pa_cons (pe_cx (E := fun _ => E0) GM hr (by decide) (by rfl) at0 (pa_cons (pv 0) (pa_cons (pv 4) pa_nil))) pa_nil)) pe_int) pa_nil)))))))
      (pss_one (ps_ret (pv 2)))))), ?_⟩
    refine q_asgL (xs := []) (el_lst ea_nil (by decide)) (fun l H1 hl e1 h1 => ?_)
    refine q_asg (v := .int 0) ev_c (fun H2 e2 => ?_)
    refine q_cut (M := fun σ' H' => ∃ r : Int, σ' = [some (.int c), some (.int (n : Int)), some (.ref l), some (.int r), none] ∧ Ex H H' ∧ H' l = some (.lst [])) ?_ (fun σ3 H3 ⟨r, hσ3, e3, h3⟩ => ?_)
    · refine s_when (b := decide ((10 : Int) ^ (18 : Int).toNat ≤ if c < 0 then -c else c)) (et_test (ev_op (ev_cb (ea_cons (ev_var rfl) ea_nil) (fun H4 _ Q' q' => ⟨c, rfl, q' H4 (Ex.refl H4)⟩)) (ev_op ev_c ev_c (rv_I ⟨by decide, by decide, by decide⟩)) rv_I0)) (fun hb H3 e3 => ?_) (fun hb H3 e3 => ?_)
      · exact s_asg (ev_cb (ea_cons (ev_var rfl) ea_nil) (fun H4 _ Q' q' => ⟨c, rfl, q' H4 (Ex.refl H4)⟩)) (fun H4 e4 => ⟨_, rfl, ((e1.trans e2).trans e3).trans e4, (e2.trans (e3.trans e4)) _ _ h1⟩)
      · exact ⟨0, rfl, (e1.trans e2).trans e3, (e2.trans e3) _ _ h1⟩
    · subst hσ3
      refine q_forR1 (n := (n : Int)) (ea_cons (ev_var rfl) ea_nil) (by omega) (fun i σ' H' => ∃ (row : List Int) (rest : Int) (v4 : Option V), σ' = [some (.int c), some (.int (n : Int)), some (.ref l), some (.int rest), v4] ∧ H' l = some (.lst (row.map V.int)) ∧ row.length = i ∧ RowOk row ∧ Ex H H')
        (fun H4 e4 => ⟨[], r, none, rfl, e4 _ _ h3, rfl, (fun v hv => nomatch hv), e3.trans e4⟩) (fun i σ' H' hi ⟨row, rest, v4, hσ, hl', hlen, hrow, he⟩ => ?_) (fun σ' H' ⟨row, rest, v4, hσ, hl', hlen, hrow, he⟩ => ?_)
      · subst hσ
        have hsz : (row.map V.int).length < 100000 := by rw [List.length_map]; omega
        have app : ∀ v : Int, row.map V.int ++ [V.int v] = (row ++ [v]).map V.int := fun v => by rw [List.map_append]; rfl
        refine s_if (b := decide (0 < rest)) (et_test (ev_op (ev_var rfl) ev_c rv_I0)) (fun hb H4 e4 => ?_) (fun hb H4 e4 => ?_)
        · refine q_app (xs := row.map V.int) (v := .int (rest % 1000)) (e4 _ _ hl') (ev_var rfl) (ev_op (x := .int rest) (ev_cb (ea_cons (ev_var rfl) ea_nil) (rc_int (K := K))) ev_c (rv_I (by decide))) hsz (fun H5 e5 => ?_)
          refine s_asg (ev_op (x := .int rest) (ev_var rfl) ev_c (rv_I ⟨by decide, by decide⟩)) (fun H6 e6 => ?_)
          refine ⟨row ++ [rest % 1000], _, _, rfl, e6 _ _ (by rw [← app]; exact upd_same), (by rw [List.length_append, hlen]; rfl), rowOk_add hrow (Int.emod_nonneg _ (by decide)) (Int.emod_lt_of_pos _ (by decide)), (Ex.mut ((he.trans e4).trans e5) hl).trans e6⟩
        · refine ⟨_, rfl, .inl ⟨rfl, _, sq_of (e4 _ _ hl')⟩, _, rfl, _, rfl, c, i, rfl, by omega, fun m H5 e5 => .inl ⟨m, rfl, m, 1000, rfl, rfl, (by decide : (0 : Int) < 1000), l, row.map V.int, .int (m % 1000), rfl, rfl, (e4.trans e5) _ _ hl', sz_lt hsz, ?_⟩⟩
          refine ⟨row ++ [m % 1000], _, _, rfl, (by rw [← app]; exact upd_same), (by rw [List.length_append, hlen]; rfl), rowOk_add hrow (Int.emod_nonneg _ (by decide)) (Int.emod_lt_of_pos _ (by decide)), Ex.mut ((he.trans e4).trans e5) hl⟩
      · subst hσ
        have hn' : row.length = n := by simpa using hlen
        refine s_ret (ev_var rfl) (fun H4 e4 => q row hn' hrow l H4 hl (he.trans e4) (e4 _ _ hl'))
end
end Fs

set_option Elab.async false
set_option linter.all false
set_option maxRecDepth 100000
set_option maxHeartbeats 4000000
namespace Fs
open PySem L2 Evl FsE FsC FsR FsK
/-! meetings in the heap: the machines of their parts -/
def PtAt (H : Hp) (v : V) (m : Int) : Prop := ∃ (q : Addr) (x y z : V), v = .ref q ∧ H q = some (.tup [.int m, x, y, z])
def MtAt (H : Hp) (v : V) (ms : List Int) : Prop := ∃ (a p : Addr) (c : V) (ps : List V), v = .ref a ∧ H a = some (.tup [c, .ref p]) ∧ H p = some (.tup ps) ∧ LsA PtAt H ps ms
theorem PtAt.keep {H H' : Hp} (e : ExN H H') {v : V} {m : Int} (h : PtAt H v m) : PtAt H' v m := by
  obtain ⟨q, x, y, z, h1, h2⟩ := h
  exact ⟨q, x, y, z, h1, e.tup _ _ h2⟩
theorem MtAt.keep {H H' : Hp} (e : ExN H H') {v : V} {ms : List Int} (h : MtAt H v ms) : MtAt H' v ms := by
  obtain ⟨a, p, c, ps, h1, h2, h3, h4⟩ := h
  exact ⟨a, p, c, ps, h1, e.tup _ _ h2, e.tup _ _ h3, h4.imp fun _ _ k => k.keep e⟩
theorem MtAt.ex {H H' : Hp} (e : Ex H H') {v : V} {ms : List Int} (h : MtAt H v ms) : MtAt H' v ms := h.keep (ExN.of e)
abbrev RwAt (H : Hp) (vs : List V) (mss : List (List Int)) : Prop := LsA MtAt H vs mss
theorem RwAt.keep {H H' : Hp} (e : ExN H H') {vs : List V} {mss : List (List Int)} (h : RwAt H vs mss) : RwAt H' vs mss := LsA.imp (fun _ _ k => MtAt.keep e k) h
theorem RwAt.ex {H H' : Hp} (e : Ex H H') {vs : List V} {mss : List (List Int)} (h : RwAt H vs mss) : RwAt H' vs mss := RwAt.keep (ExN.of e) h
def MsOk (mss : List (List Int)) : Prop := mss.length ≤ 10 ∧ ∀ ms ∈ mss, ms.length ≤ 20
section
variable {σ : L2.St} {H : Hp} {te : TE} {K : PySem.W.Frag}
/-- [e for a, b, c, d in (a tuple)] -/
theorem el_lcT4 {a : Addr} {xs ys : List V} {tl : TE} {i1 i2 i3 i4 : Nat} {vs : List Nat} (h : Ev tl σ H (.ref a)) (hx : SqT K H a xs) (hz : xs.length ≤ 40000) (hw : ∀ x1 x2 x3 x4, wipe (((((wipe σ vs).set i1 (some x1)).set i2 (some x2)).set i3 (some x3)).set i4 (some x4)) vs = wipe σ vs) (hl : ys.length = xs.length)
    (he : ∀ (i : Nat) (x y : V) H1, Ex H H1 → xs[i]? = some x → ys[i]? = some y → ∃ (q : Addr) (x1 x2 x3 x4 : V), x = .ref q ∧ H1 q = some (.tup [x1, x2, x3, x4]) ∧ Ev te (((((wipe σ vs).set i1 (some x1)).set i2 (some x2)).set i3 (some x3)).set i4 (some x4)) H1 y) :
    EvL (tLc (iTup K tl) (gTup K 4 (gCons (gName i1) (gCons (gName i2) (gCons (gName i3) (gCons (gName i4) gNil))))) tYes te vs) σ H ys := fun H0 e Q q => h H0 e _ fun H1 e1 => ⟨a, rfl, ⟨xs, ex_t (e.trans e1) hx⟩, fun Dl hD =>
  lc_tup (xs := xs) (Cw H1 (fun _ => true) (fun i => ys.getD i .non) Dl) ⟨hD, Ex.new hD, upd_same⟩ (fun i H' _ p => ex_t ((e.trans e1).trans p.2.1) hx) (fun i x H' hi p => by
    have hi1 := (List.getElem?_eq_some_iff.mp hi).1
    have hy : ys[i]? = some (ys.getD i .non) := by rw [List.getD_eq_getElem?_getD, List.getElem?_eq_getElem (by omega)]; rfl
    obtain ⟨r, x1, x2, x3, x4, rfl, hr, ht⟩ := he i x _ H1 (e.trans e1) hi hy
    exact ⟨r, _, rfl, st_of (p.2.1 _ _ hr), rfl, _, _, rfl, _, _, rfl, _, _, rfl, _, _, rfl, rfl, hw x1 x2 x3 x4, cw_turn (f := fun _ => true) (v := fun i => ys.getD i .non) p (by omega) et_nil (fun _ => ht)⟩)
    (fun H' p => by
      have e3 : given xs.length (fun _ => true) (fun i => ys.getD i .non) = ys := by rw [given_all, range_ys hl]
      have h3 : H' Dl = some (.lst (given xs.length (fun _ => true) (fun i => ys.getD i .non))) := p.2.2
      rw [e3] at h3
      exact q Dl H' (fresh_back e1 p.1) (e1.trans p.2.1) h3)⟩
theorem q_unpT2 {ta : TE} {a : Addr} {x1 x2 : V} {i1 i2 : Nat} {tz : TS} {D : Ends} (h : Ev ta σ H (.ref a)) (hx : H a = some (.tup [x1, x2])) (σ' : L2.St)
    (hσ : (σ.set i1 (some x1)).set i2 (some x2) = σ') (k : ∀ H1, Ex H H1 → tz D σ' H1) : tSeq (tAsg ta (gTup K 2 (gCons (gName i1) (gCons (gName i2) gNil)))) tz D σ H := by
  subst hσ
  exact h H (Ex.refl H) _ fun H1 e1 => ⟨a, _, rfl, st_of (e1 _ _ hx), rfl, _, _, rfl, _, _, rfl, rfl, k H1 e1⟩
end
section
variable {P : Program} {w : World} {K : PySem.W.Frag} {mg : Str → Option Value} {base : Heap}
/-- machines_in(meeting) -/
def spMach : Sp := fun vs H Q _ => ∃ (v : V) (ms : List Int), vs = [v] ∧ MtAt H v ms ∧ ms.length ≤ 20 ∧ RetL (ms.map V.int) H Q
abbrev nsMach : List Str := ["meeting", "channel", "parts", "machine", "turn", "place", "value"]
theorem scMach : FnScope nsMach ["meeting"] (defScope (topS 8)) := ⟨rfl, rfl, rfl, by decide +kernel, rfl, by decide +kernel, by decide +kernel⟩
theorem LsA.pt {H : Hp} : ∀ {vs : List V} {ms : List Int} {i : Nat} {v y : V}, LsA PtAt H vs ms → vs[i]? = some v → (ms.map V.int)[i]? = some y → ∃ (q : Addr) (m : Int) (x z u : V), v = .ref q ∧ y = .int m ∧ H q = some (.tup [.int m, x, z, u])
  | v :: vs, m :: ms, 0, w, y, h, e, e2 => by
    cases e
    cases e2
    obtain ⟨q, x, z, u, h1, h2⟩ := h.1
    exact ⟨q, m, x, z, u, h1, rfl, h2⟩
  | _ :: _, _ :: _, i + 1, _, _, h, e, e2 => LsA.pt (i := i) h.2 e e2
  | [], _, _, _, _, _, e, _ => by simp at e
  | _ :: _, [], _, _, _, h, _, _ => h.elim
theorem ok_mach {f : Addr} {fd : FuncData} (F : Fun K "machines_in" "machines_in" (topS 8) f fd) : FnOk P w K mg base CX0 1 f fd ["meeting"] spMach := by
  refine F.ok scMach (fun vs H Q E h => ?_) (fun cdv A outer s H vs Q E hr h => ?_)
  · obtain ⟨v, ms, rfl, _⟩ := h
    rfl
  · obtain ⟨v, ms, rfl, hm, hz, q⟩ := h
    obtain ⟨a, p, c, ps, rfl, h1, h2, h3⟩ := hm
    refine ⟨_, pss_cons (ps_asg (pv 0) (pg_tup rfl (pgs_cons (pg_name (i := 1) scMach.nd rfl (.inl rfl)) (pgs_cons (pg_name (i := 2) scMach.nd rfl (.inl rfl)) pgs_nil))))
      (pss_one (ps_ret (pe_lc (own := [("machine", 3), ("turn", 4), ("place", 5), ("value", 6)]) (g := gTup K 4 (gCons (gName 3) (gCons (gName 4) (gCons (gName 5) (gCons (gName 6) gNil))))) (tt := tYes) (te := tVar 3) rfl scMach.nd (pi_tup (pv 2)) (blkOk_by (own := [("machine", 3), ("turn", 4), ("place", 5), ("value", 6)]) (N := nsMach) (sc := defScope (topS 8)) (by decide +kernel))
        (fun _ _ _ _ _ => pg_tup rfl (pgs_cons (pg_name (i := 3) scMach.nd rfl (.inl rfl)) (pgs_cons (pg_name (i := 4) scMach.nd rfl (.inl rfl)) (pgs_cons (pg_name (i := 5) scMach.nd rfl (.inl rfl)) (pgs_cons (pg_name (i := 6) scMach.nd rfl (.inl rfl)) pgs_nil))))) (fun _ _ _ _ _ => pts_nil)
        (fun _ _ _ _ _ => pv 3)))), ?_⟩
    refine q_unpT2 (ev_var rfl) h1 [some (.ref a), some c, some (.ref p), none, none, none, none] rfl (fun H1 e1 => ?_)
    refine s_retL (el_lcT4 (xs := ps) (ys := ms.map V.int) (ev_var rfl) (st_of (e1 _ _ h2)) (by have := h3.length; omega) (fun _ _ _ _ => rfl) (by rw [List.length_map]; exact h3.length.symm) (fun i x y H2 e2 hx hy => ?_)) (fun r H2 hr2 e2 h2' => q r H2 (fresh_back e1 hr2) (e1.trans e2) h2')
    obtain ⟨b, m, x1, x2, x3, rfl, rfl, hb⟩ := LsA.pt h3 hx hy
    exact ⟨b, .int m, x1, x2, x3, rfl, (e1.trans e2) _ _ hb, ev_var rfl⟩
/-- is_int, is_index over ints -/
structure RunT (K : PySem.W.Frag) (mg : Str → Option Value) : Prop where
  isinst : mg "isinstance" = none
  int : mg "int" = none
  bool : mg "bool" = none
  len : mg "len" = none
  any : mg "any" = none
  tuple : mg "tuple" = none
def spIsInt : Sp := fun vs H Q _ => ∃ i : Int, vs = [.int i] ∧ RetV (.bl true) H Q
theorem scIsInt : FnScope ["value"] ["value"] (defScope (topS 2)) := ⟨rfl, rfl, rfl, by decide +kernel, rfl, by decide +kernel, by decide +kernel⟩
theorem ok_isint {f : Addr} {fd : FuncData} (F : Fun K "is_int" "is_int" (topS 2) f fd) (T : RunT K mg) : FnOk P w K mg base CX0 1 f fd ["value"] spIsInt := by
  refine F.ok scIsInt (fun vs H Q E h => ?_) (fun cdv A outer s H vs Q E hr h => ?_)
  · obtain ⟨i, rfl, _⟩ := h
    rfl
  · obtain ⟨i, rfl, q⟩ := h
    refine ⟨_, pss_one (ps_ret (pe_and (pe_callB call_isi (by rfl) T.isinst (by decide +kernel) (pa_cons (pv 0) (pa_cons (pe_bltn (v := .ty "int") (by rfl) T.int (by decide +kernel) rfl) pa_nil)))
      (pe_one (pe_not (pe_callB call_isi (by rfl) T.isinst (by decide +kernel) (pa_cons (pv 0) (pa_cons (pe_bltn (v := .ty "bool") (by rfl) T.bool (by decide +kernel) rfl) pa_nil))))))), ?_⟩
    exact s_ret (ev_andV (a := true) (b := true) (ev_cb (ea_cons (ev_var rfl) (ea_cons ev_c ea_nil)) (rc_isInt (by decide +kernel)))
        (fun _ => ev_notV (a := false) (ev_cb (ea_cons (ev_var rfl) (ea_cons ev_c ea_nil)) (rc_isInt (by decide +kernel))))) q
def spIndex : Sp := fun vs H Q _ => ∃ i n : Int, vs = [.int i, .int n] ∧ RetV (.bl (decide (0 ≤ i) && decide (i < n))) H Q
theorem scIndex : FnScope ["at", "count"] ["at", "count"] (defScope (topS 3)) := ⟨rfl, rfl, rfl, by decide +kernel, rfl, by decide +kernel, by decide +kernel⟩
theorem ok_index {f : Addr} {fd : FuncData} (F : Fun K "is_index" "is_index" (topS 3) f fd) (GI : CalX P w K mg base CX0 1 "is_int" spIsInt) : FnOk P w K mg base CX0 2 f fd ["at", "count"] spIndex := by
  refine F.ok scIndex (fun vs H Q E h => ?_) (fun cdv A outer s H vs Q E hr h => ?_)
  · obtain ⟨i, n, rfl, _⟩ := h
    rfl
  · obtain ⟨i, n, rfl, q⟩ := h
    refine ⟨_, pss_one (ps_ret (pe_and (pe_cx (E := fun _ => E0) GI hr (by decide) (by rfl) at0 (pa_cons (pv 0) pa_nil)) (pe_one (pe_chain op_le op_lt pe_int (pv 0) (pv 1))))), ?_⟩
    exact s_ret (ev_andV (a := true) (ev_cx (ea_cons (ev_var rfl) ea_nil) (fun H1 _ Q' q' E' => ⟨i, rfl, fun H2 e2 => q' H2 e2⟩)) (fun _ => ev_chain ev_c (ev_var rfl) rv_I0 (fun _ => ev_var rfl) (fun _ => rv_I0))) q
end
end Fs

set_option Elab.async false
set_option linter.all false
set_option maxRecDepth 100000
set_option maxHeartbeats 4000000
namespace Fs
open PySem L2 Evl FsE FsC FsR FsK
/-! dicts of True under machines -/
def MK (ms : List Int) (kvs : List (Key × V)) : Prop := kvs.length ≤ ms.length ∧ ∀ i : Int, (valV kvs (.inl i : Key)).isSome = true ↔ i ∈ ms
theorem MK.nil : MK [] [] := ⟨Nat.le_refl _, fun i => by
  show (none : Option V).isSome = true ↔ i ∈ []
  simp⟩
theorem putK_lenF (kvs : List (Key × V)) (k : Key) (v : V) : (putK kvs k v).length ≤ kvs.length + 1 := length_putK kvs k v
theorem mem_putK {kvs : List (Key × V)} {k : Key} {v : V} {p : Key × V} (h : p ∈ putK kvs k v) : (∃ q ∈ kvs, p.1 = q.1) ∨ p.1 = k := by
  unfold putK at h
  split at h
  · obtain ⟨q, hq, e⟩ := List.mem_map.mp h
    refine .inl ⟨q, hq, ?_⟩
    rw [← e]
    by_cases e2 : q.1 = k
    · rw [if_pos e2]
    · rw [if_neg e2]
  · rcases List.mem_append.mp h with h | h
    · exact .inl ⟨p, h, rfl⟩
    · rw [List.mem_singleton.mp h]
      exact .inr rfl
theorem MK.put {ms : List Int} {kvs : List (Key × V)} (h : MK ms kvs) (m : Int) (v : V) : MK (ms ++ [m]) (putK kvs (.inl m) v) := ⟨by
    have := length_putK kvs (.inl m) v
    have := h.1
    rw [List.length_append, List.length_singleton]
    omega, fun i => by
    rw [valV_put]
    by_cases e : i = m
    · subst e
      rw [if_pos rfl]
      simp
    · rw [if_neg (fun z => e (by injection z))]
      rw [h.2 i, List.mem_append, List.mem_singleton]
      exact ⟨.inl, fun q => q.elim id (fun z => absurd z e)⟩⟩
theorem mergeK_some {kvs : List (Key × V)} {more : List (Key × V)} (_hk : ∀ p ∈ more, ∃ i : Int, p.1 = .inl i) (i : Int) : (valV (mergeK kvs more) (.inl i : Key)).isSome = ((valV kvs (.inl i : Key)).isSome || (valV more (.inl i : Key)).isSome) := by
  clear _hk
  induction more generalizing kvs with
  | nil =>
    show (valV kvs (.inl i : Key)).isSome = ((valV kvs (.inl i : Key)).isSome || (none : Option V).isSome)
    rw [Option.isSome_none, Bool.or_false]
  | cons p r ih =>
    show (valV (mergeK (putK kvs p.1 p.2) r) (.inl i : Key)).isSome = _
    rw [ih, valV_put]
    by_cases e : (.inl i : Key) = p.1
    · rw [if_pos e, valV_pos e.symm]
      simp
    · rw [if_neg e, valV_neg (Ne.symm e)]
section
variable {σ : L2.St} {H : Hp} {te tk tv : TE} {K : PySem.W.Frag}
theorem ev_anyL {bs : List Bool} (h : EvL te σ H (bs.map V.bl)) : Ev (tCB (rAny K) (tCons te tNil)) σ H (.bl (bs.any id)) := fun H1 e Q q =>
  h H1 e _ fun p H2 _ e2 hp => ⟨p, bs, rfl, sq_of hp, q H2 e2⟩
/-- it evaluates to a new dict of which Pk -/
def EvDk (te : TE) (σ : L2.St) (H : Hp) (Pk : List (Key × V) → Prop) : Prop := ∀ H1, Ex H H1 → ∀ Q : VK, (∀ p H2 kvs, H1 p = none → Ex H1 H2 → H2 p = some (.dK kvs) → Pk kvs → Q (.ref p) H2) → te σ H1 Q
theorem dc_listF {a : Addr} {xs : List V} {g : TG} {tt : TT} {vs : List Nat} {H1 : Hp} {D : Addr} {Qd : Hp → Prop} (Pv : Nat → Hp → Prop) (h0 : Pv 0 (upd H1 D (.dK []))) (hl : ∀ i H, i ≤ xs.length → Pv i H → SqL K H a xs)
    (hs : ∀ i x H, xs[i]? = some x → Pv i H → g x (wipe σ vs) H fun σ2 H2 => wipe σ2 vs = wipe σ vs ∧ tt σ2 H2 fun b H3 =>
      if b = true then tk σ2 H3 fun y H4 => tv σ2 H4 fun z H5 => ∃ kvs k, y = kV k ∧ H5 D = some (.dK kvs) ∧ kvs.length < sizeLine ∧ Pv (i + 1) (upd H5 D (.dK (putK kvs k z))) else Pv (i + 1) H3) (hd : ∀ H, Pv xs.length H → Qd H) :
    ∃ W : Nat → Nat → Hp → Prop, (∃ m, W 0 m (upd H1 D (.dK []))) ∧ ∀ i m H, W i m H →
      ((Itl K a).stop i H ∧ Qd H) ∨ ((Itl K a).go i H ∧ ∃ Nx : Hp → Prop, (∀ H', Nx H' → ∃ m', m' < m ∧ W (i + 1) m' H') ∧ ∀ x H', (Itl K a).yld i H x H' → g x (wipe σ vs) H' fun σ2 H2 => wipe σ2 vs = wipe σ vs ∧ tt σ2 H2 fun b H3 =>
        if b = true then tk σ2 H3 fun y H4 => tv σ2 H4 fun z H5 => ∃ kvs k, y = kV k ∧ H5 D = some (.dK kvs) ∧ kvs.length < sizeLine ∧ Nx (upd H5 D (.dK (putK kvs k z))) else Nx H3) := by
  refine ⟨fun i m H => m = xs.length - i ∧ i ≤ xs.length ∧ Pv i H, ⟨xs.length, by simp, Nat.zero_le _, h0⟩, ?_⟩
  rintro i m H ⟨rfl, hi, p⟩
  have q := hl i H hi p
  by_cases hlt : i < xs.length
  · refine .inr ⟨⟨xs, xs[i], q, by simp [hlt]⟩, Pv (i + 1), fun H' p' => ⟨xs.length - (i + 1), by omega, rfl, hlt, p'⟩, fun x H' y => ?_⟩
    obtain ⟨e, y⟩ := y
    subst e
    exact hs i x _ (y xs q) p
  · have e : i = xs.length := by omega
    subst e
    exact .inl ⟨⟨xs, q, Nat.le_refl _⟩, hd H p⟩
/-- {m: v for m in (a new list of ints)} -/
theorem ed_dcN {ms : List Int} {tl : TE} {j : Nat} {vs : List Nat} {z : V} (h : EvL tl σ H (ms.map V.int)) (hz : ms.length ≤ 20) (hw : ∀ x, wipe ((wipe σ vs).set j (some x)) vs = wipe σ vs) (hk : ∀ (m : Int) H1, Ev tk ((wipe σ vs).set j (some (.int m))) H1 (.int m)) (hv : ∀ (m : Int) H1, Ev tv ((wipe σ vs).set j (some (.int m))) H1 z) :
    EvDk (tDc (iList K tl) (gName j) tYes tk tv vs) σ H (fun kvs => MK ms kvs ∧ ∀ p ∈ kvs, ∃ i : Int, p.1 = .inl i) := fun H0 e Q q => h H0 e _ fun a H1 ha e1 hx => ⟨a, rfl, ⟨_, sq_of hx⟩, fun D hD =>
  dc_listF (xs := ms.map V.int) (fun i H' => Ex H1 H' ∧ ∃ kvs, H' D = some (.dK kvs) ∧ MK (ms.take i) kvs ∧ ∀ p ∈ kvs, ∃ i : Int, p.1 = .inl i) ⟨Ex.new hD, [], upd_same, by rw [List.take_zero]; exact MK.nil, fun p hp => nomatch hp⟩ (fun i H' _ p => sq_of (p.1 _ _ hx))
    (fun i x H' hi ⟨e2, kvs, h2, hm, hkk⟩ => by
      obtain ⟨m, hmi, rfl⟩ : ∃ m, ms[i]? = some m ∧ x = V.int m := by
        rw [List.getElem?_map] at hi
        cases e : ms[i]? with
        | none => rw [e] at hi; cases hi
        | some m => rw [e] at hi; exact ⟨m, rfl, (Option.some.inj hi).symm⟩
      refine ⟨hw _, ?_⟩
      show tk ((wipe σ vs).set j (some (.int m))) H' _
      refine hk m H' H' (Ex.refl _) _ fun H3 e3 => hv m H3 H3 (Ex.refl _) _ fun H4 e4 => ⟨kvs, .inl m, rfl, (e3.trans e4) _ _ h2, ?_, Ex.mut (e2.trans (e3.trans e4)) hD, _, upd_same, ?_, ?_⟩
      · refine sz_lt ?_
        have := hm.1
        rw [List.length_take] at this
        omega
      · have : ms.take (i + 1) = ms.take i ++ [m] := by rw [List.take_add_one, hmi]; rfl
        rw [this]
        exact hm.put m z
      · intro p hp
        rcases mem_putK hp with ⟨r, hr, er⟩ | hp
        · rw [er]
          exact hkk r hr
        · exact ⟨m, hp⟩)
    (fun H' ⟨e2, kvs, h2, hm, hkk⟩ => by
      rw [List.length_map, List.take_length] at hm
      exact q D H' kvs (fresh_back e1 hD) (e1.trans e2) h2 ⟨hm, hkk⟩)⟩
end
section
variable {P : Program} {w : World} {K : PySem.W.Frag} {mg : Str → Option Value} {base : Heap} {C : Addr}
/-- takes_any(meeting, machines), machines a dict -/
def spTakes : Sp := fun vs H Q _ => ∃ (v : V) (d : Addr) (ms : List Int) (kvs : List (Key × V)), vs = [v, .ref d] ∧ MtAt H v ms ∧ ms.length ≤ 20 ∧ H d = some (.dK kvs) ∧ RetV (.bl (ms.any fun m => (valV kvs (.inl m : Key)).isSome)) H Q
abbrev nsTakes : List Str := ["meeting", "machines", "machine"]
theorem scTakes : FnScope nsTakes ["meeting", "machines"] (defScope (topS 11)) := ⟨rfl, rfl, rfl, by decide +kernel, rfl, by decide +kernel, by decide +kernel⟩
theorem ok_takes {f : Addr} {fd : FuncData} (F : Fun K "takes_any" "takes_any" (topS 11) f fd) (T : RunT K mg) (GM : CalX P w K mg base CX0 1 "machines_in" spMach) : FnOk P w K mg base CX0 2 f fd ["meeting", "machines"] spTakes := by
  refine F.ok scTakes (fun vs H Q E h => ?_) (fun cdv A outer s H vs Q E hr h => ?_)
  · obtain ⟨v, d, ms, kvs, rfl, _⟩ := h
    rfl
  · obtain ⟨v, d, ms, kvs, rfl, hm, hz, hd, q⟩ := h
    refine ⟨_, pss_one (ps_ret (pe_callB (cr_any rfl) (by rfl) T.any (by decide +kernel) (pa_cons
      (pe_lc (own := [("machine", 2)]) (g := gName 2) (tt := tYes) (te := tDIn (tVar 2) (tVar 1)) rfl scTakes.nd (pi_list (pe_cx (E := fun _ => E0) GM hr (by decide) (by rfl) at0 (pa_cons (pv 0) pa_nil))) (blkOk_by (own := [("machine", 2)]) (N := nsTakes) (sc := defScope (topS 11)) (by decide +kernel))
        (fun _ _ _ _ _ => pg_name (i := 2) scTakes.nd rfl (Or.inl rfl)) (fun _ _ _ _ _ => pts_nil)
        (fun _ _ _ _ _ => pe_cmp (pc_din (hu_of hr) (pv 2) (pv 1)))) pa_nil))), ?_⟩
    refine s_ret (v := .bl ((ms.map fun m => (valV kvs (.inl m : Key)).isSome).any id)) (ev_anyL (el_lcNLy (xs := ms.map V.int) (el_cx (ea_cons (ev_var rfl) ea_nil) (fun H2 e2 Q2 q2 E2 => ⟨v, ms, rfl, hm.ex e2, hz, fun p H3 hp e3 h3 => q2 p H3 hp e3 h3⟩)) (by rw [List.length_map]; omega) (fun _ => rfl) (by simp only [List.length_map]) (fun i x y H2 e2 hx hy => ?_))) (fun H1 e1 => by rw [List.any_map]; exact q H1 e1)
    simp only [List.getElem?_map] at hx hy
    cases e : ms[i]? with
    | none => rw [e] at hx; cases hx
    | some m =>
      rw [e] at hx hy
      cases hx
      cases hy
      exact fun H3 e3 Q3 q3 => ⟨.int m, rfl, .ref d, rfl, d, _, rfl, DGet.k (k := (.inl m : Key)) ((e2.trans e3) _ _ hd), q3 H3 (Ex.refl _)⟩
end
end Fs

set_option Elab.async false
set_option linter.all false
set_option maxRecDepth 100000
set_option maxHeartbeats 8000000
namespace Fs
open PySem L2 Evl FsE FsC FsR FsK
/-! runs in the heap -/
def RnAt (C : Addr) (H : Hp) (a : Addr) (xs : List V) : Prop := ∃ dx t, H a = some (.ins C dx [("rows", .ref t)]) ∧ H t = some (.tup xs)
theorem RnAt.ex {C : Addr} {H H' : Hp} (e : Ex H H') {a : Addr} {xs : List V} (h : RnAt C H a xs) : RnAt C H' a xs := by
  obtain ⟨dx, t, h1, h2⟩ := h
  exact ⟨dx, t, e _ _ h1, e _ _ h2⟩
theorem RnAt.keep {C : Addr} {H H' : Hp} (e : ExN H H') {a : Addr} {xs : List V} (h : RnAt C H a xs) : RnAt C H' a xs := by
  obtain ⟨dx, t, h1, h2⟩ := h
  exact ⟨dx, t, e.ins _ _ _ _ h1, e.tup _ _ h2⟩
structure RunC (K : PySem.W.Frag) (mg : Str → Option Value) (C : Addr) : Prop where
  cl : Cls K C
  nR : NoAttr K C "rows"
  mgC : mg "Run" = some (.ref C)
theorem rn_lookup {t : Addr} : List.lookup ("rows" : Str) [("rows", V.ref t)] = some (.ref t) := by
  rw [List.lookup_cons, show (("rows" : Str) == "rows") = true from by decide +kernel]
section
variable {σ : L2.St} {H : Hp} {te ta tv : TE} {K : PySem.W.Frag} {C : Addr}
theorem s_fldU {a dx : Addr} {fs : List (Str × V)} {f : Str} {xs : List V} {D : Ends} (hv : EvU tv σ H xs) (ho : ∀ H1, Ex H H1 → Ev ta σ H1 (.ref a)) (hi : H a = some (.ins C dx fs)) (cl : Cls K C) (n : NoAttr K C f) (hl : fs.length < 1000)
    (k : ∀ t H1, H t = none → Ex H H1 → H1 t = some (.tup xs) → D.nx σ (upd H1 a (.ins C dx (putF f (.ref t) fs)))) : sFld K ta tv f D σ H :=
  hv H (Ex.refl H) _ fun t H1 ht e1 h1 => ho H1 e1 H1 (Ex.refl H1) _ fun H2 e2 => ⟨a, C, dx, fs, rfl, (e1.trans e2) _ _ hi, cl, n, hl, k t H2 ht (e1.trans e2) (e2 _ _ h1)⟩
/-- tuple(xs), xs a list -/
theorem eu_tupL {l : Addr} {xs : List V} (h : Ev te σ H (.ref l)) (hl : SqL K H l xs) : EvU (tCB (fun xs H Q => ∃ p ys, xs = [V.ref p] ∧ ((SqL K H p ys ∧ ∀ l, H l = none → Q (.ref l) (upd H l (.tup ys))) ∨ (SqT K H p ys ∧ Q (.ref p) H))) (tCons te tNil)) σ H xs := fun H1 e Q q =>
  h H1 e _ fun H2 e2 => ⟨l, xs, rfl, .inl ⟨ex_l (e.trans e2) hl, fun p hp => q p _ (fresh_back e2 hp) (e2.trans (Ex.new hp)) upd_same⟩⟩
theorem eu_slT {tl th : TO} {a : Addr} {xs : List V} {lo hi : Option Int} (h : Ev te σ H (.ref a)) (h1 : EvO tl σ H lo) (h2 : EvO th σ H hi) (hs : SqT K H a xs) (hw : ¬ (HT.sIx xs.length 0 lo = 0 ∧ HT.sIx xs.length xs.length hi = xs.length)) : EvU (tSl (rSlT K) te tl th) σ H (cutV xs lo hi) := fun H1 e _ q =>
  h H1 e _ fun H2 e2 => h1 H2 (e.trans e2) _ fun H3 e3 => h2 H3 ((e.trans e2).trans e3) _ fun H4 e4 =>
    ⟨a, xs, rfl, ex_t (((e.trans e2).trans e3).trans e4) hs, hw, fun p hp => q p _ (fresh_back ((e2.trans e3).trans e4) hp) (((e2.trans e3).trans e4).trans (Ex.new hp)) upd_same⟩
end
section
variable {P : Program} {w : World} {K : PySem.W.Frag} {mg : Str → Option Value} {base : Heap} {C : Addr}
def spRunInit (K : PySem.W.Frag) (C : Addr) : Sp := fun vs H Q _ => ∃ (a dx l : Addr) (xs : List V) (H0 : Hp), vs = [.ref a, .ref l] ∧ H a = some (.ins C dx []) ∧ H0 a = none ∧ Ex H0 H ∧ SqL K H0 l xs ∧ ∀ H', Ex H0 H' → RnAt C H' a xs → Q .non H'
theorem scRunInit : FnScope ["self", "meetings"] ["self", "meetings"] (defScope (inClass (topS 10) 0)) := ⟨rfl, rfl, rfl, by decide +kernel, rfl, by decide +kernel, by decide +kernel⟩
theorem ok_runinit {f : Addr} {fd : FuncData} (F : Fun K "__init__" "Run.__init__" (inClass (topS 10) 0) f fd) (T : RunT K mg) (R : RunC K mg C) : FnOk P w K mg base CX0 1 f fd ["self", "meetings"] (spRunInit K C) := by
  refine F.ok scRunInit (fun vs H Q E h => ?_) (fun cdv A outer s H vs Q E hr h => ?_)
  · obtain ⟨a, dx, l, xs, H0, rfl, _⟩ := h
    rfl
  · obtain ⟨a, dx, l, xs, H0, rfl, ha, hna, e0, hl, q⟩ := h
    refine ⟨_, pss_one (ps_fld (pv 0) (pe_callTy call_tuple_of (by rfl) T.tuple (by decide +kernel) (pa_cons (pv 1) pa_nil)) rfl), ?_⟩
    refine s_fldU (xs := xs) (eu_tupL (ev_var rfl) (ex_l e0 hl)) (fun H1 e1 => ev_var rfl) ha R.cl R.nR (by show 0 < 1000; decide) (fun t H1 ht e1 h1 => ?_)
    have hne : t ≠ a := fun z => by
      subst z
      rw [ha] at ht
      cases ht
    exact q _ (Ex.mut (e0.trans e1) hna) ⟨dx, t, upd_same, by rw [upd_ne hne]; exact h1⟩
def spRunLen (C : Addr) : Sp := fun vs H Q _ => ∃ (a : Addr) (xs : List V), vs = [.ref a] ∧ RnAt C H a xs ∧ RetV (.int (xs.length : Int)) H Q
theorem scRunLen : FnScope ["self"] ["self"] (defScope (inClass (topS 10) 2)) := ⟨rfl, rfl, rfl, by decide +kernel, rfl, by decide +kernel, by decide +kernel⟩
theorem ok_runlen {f : Addr} {fd : FuncData} (F : Fun K "__len__" "Run.__len__" (inClass (topS 10) 2) f fd) (T : RunT K mg) (R : RunC K mg C) : FnOk P w K mg base CX0 1 f fd ["self"] (spRunLen C) := by
  refine F.ok scRunLen (fun vs H Q E h => ?_) (fun cdv A outer s H vs Q E hr h => ?_)
  · obtain ⟨a, xs, rfl, _⟩ := h
    rfl
  · obtain ⟨a, xs, rfl, ⟨dx, t, h1, h2⟩, q⟩ := h
    refine ⟨_, pss_one (ps_ret (pe_callB call_len_seq (by rfl) T.len PySem.boot_len (pa_cons (pe_fld (pv 0) rfl) pa_nil))), ?_⟩
    exact s_ret (ev_lenT (K := K) (ev_fld (ev_var rfl) h1 R.cl R.nR rn_lookup) (st_of h2)) q
def spRunGet (C : Addr) : Sp := fun vs H Q _ => ∃ (a : Addr) (xs : List V) (i : Nat) (v : V), vs = [.ref a, .int (i : Int)] ∧ RnAt C H a xs ∧ xs[i]? = some v ∧ RetV v H Q
theorem scRunGet : FnScope ["self", "at"] ["self", "at"] (defScope (inClass (topS 10) 4)) := ⟨rfl, rfl, rfl, by decide +kernel, rfl, by decide +kernel, by decide +kernel⟩
theorem ok_runget {f : Addr} {fd : FuncData} (F : Fun K "__getitem__" "Run.__getitem__" (inClass (topS 10) 4) f fd) (T : RunT K mg) (R : RunC K mg C) (GX : CalX P w K mg base CX0 2 "is_index" spIndex) : FnOk P w K mg base CX0 3 f fd ["self", "at"] (spRunGet C) := by
  refine F.ok scRunGet (fun vs H Q E h => ?_) (fun cdv A outer s H vs Q E hr h => ?_)
  · obtain ⟨a, xs, i, v, rfl, _⟩ := h
    rfl
  · obtain ⟨a, xs, i, v, rfl, ⟨dx, t, h1, h2⟩, hv, q⟩ := h
    refine ⟨_, pss_cons (ps_if (pt_not (pt_val (pe_cx (E := fun _ => E0) GX hr (by decide) (by rfl) at0 (pa_cons (pv 1) (pa_cons (pe_callB call_len_seq (by rfl) T.len PySem.boot_len (pa_cons (pe_fld (pv 0) rfl) pa_nil)) pa_nil))))) pss_never pss_nil)
      (pss_one (ps_ret (pe_ix ix_tup (pe_fld (pv 0) rfl) (pv 1) (fun _ _ => rfl)))), ?_⟩
    have hi := (List.getElem?_eq_some_iff.mp hv).1
    refine q_when (b := false) (et_is (et_not (et_B (ev_cx (z := .bl (decide (0 ≤ (i : Int)) && decide ((i : Int) < (xs.length : Int)))) (ea_cons (ev_var rfl) (ea_cons (ev_lenT (K := K) (ev_fld (ev_var rfl) h1 R.cl R.nR rn_lookup) (st_of h2)) ea_nil)) (fun H1 _ Q' q' E' => ⟨_, _, rfl, fun H2 e2 => q' H2 e2⟩)))) (by
      rw [decide_eq_true (show (0 : Int) ≤ (i : Int) by omega), decide_eq_true (show (i : Int) < (xs.length : Int) by omega)]; rfl)) (fun hb => nomatch hb) (fun _ H1 e1 => ?_)
    exact s_ret (v := v) (ev_op (y := .int (i : Int)) (ev_fld (ev_var rfl) (e1 _ _ h1) R.cl R.nR rn_lookup) (ev_var rfl) (rv_ixT (st_of (e1 _ _ h2)) (atI_nat hv))) (fun H2 e2 => q H2 (e1.trans e2))
def mssF (mss : List (List Int)) (k : Nat) : List Int := mss.getD k []
theorem rw_get {H : Hp} {xs : List V} {mss : List (List Int)} {i : Nat} (h : RwAt H xs mss) (hm : MsOk mss) (hi : i < xs.length) : ∃ v, xs[i]? = some v ∧ MtAt H v (mssF mss i) ∧ (mssF mss i).length ≤ 20 := by
  obtain ⟨v, ms, h1, h2, h3⟩ := LsA.at_ h hi
  have e : mssF mss i = ms := by
    unfold mssF
    rw [List.getD_eq_getElem?_getD, h2]
    rfl
  refine ⟨v, h1, by rw [e]; exact h3, ?_⟩
  rw [e]
  exact hm.2 _ (List.mem_of_getElem? h2)
theorem ev_ixO {σ : L2.St} {H : Hp} {ta tb : TE} {E : L2.St → XK} {a : Addr} {xs : List V} {i : Nat} {v : V} (ha : Ev ta σ H (.ref a)) (hb : Ev tb σ H (.int (i : Int))) (hr : RnAt C H a xs) (hv : xs[i]? = some v) : Ev (tIxO C (spRunGet C) E ta tb) σ H v := fun H1 e Q q =>
  ha H1 e _ fun H2 e2 => hb H2 (e.trans e2) _ fun H3 e3 => by
    have r3 := hr.ex ((e.trans e2).trans e3)
    have r3' := r3
    obtain ⟨dx, t, h1, h2⟩ := r3'
    exact ⟨a, dx, _, rfl, h1, a, xs, i, v, rfl, r3, hv, fun H4 e4 => q H4 ((e2.trans e3).trans e4)⟩
end
end Fs

set_option Elab.async false
set_option linter.all false
set_option maxRecDepth 100000
set_option maxHeartbeats 8000000
namespace Fs
open PySem L2 Evl FsE FsC FsR FsK
/-! dependence: k depends on i -/
inductive Dpd (f : Nat → List Int) (i : Nat) : Nat → Prop
  | one {k : Nat} : i < k → (∃ m, m ∈ f i ∧ m ∈ f k) → Dpd f i k
  | more {e k : Nat} : Dpd f i e → e < k → (∃ m, m ∈ f e ∧ m ∈ f k) → Dpd f i k
theorem Dpd.lt {f : Nat → List Int} {i : Nat} : ∀ {k : Nat}, Dpd f i k → i < k
  | _, .one h _ => h
  | _, .more h g _ => Nat.lt_trans (Dpd.lt h) g
theorem dpd_iff {f : Nat → List Int} {i k : Nat} : Dpd f i k ↔ ∃ x, x < k ∧ (∃ m, m ∈ f x ∧ m ∈ f k) ∧ (i = x ∨ Dpd f i x) := by
  constructor
  · intro h
    cases h with
    | one h g => exact ⟨i, h, g, .inl rfl⟩
    | more h g s => exact ⟨_, g, s, .inr h⟩
  · rintro ⟨x, h, s, rfl | g⟩
    · exact .one h s
    · exact .more g h s
/-- the machines that are reached from i, ahead of k -/
def Rch (f : Nat → List Int) (i k : Nat) (m : Int) : Prop := ∃ x, x < k ∧ (i = x ∨ Dpd f i x) ∧ m ∈ f x
theorem rch_first {f : Nat → List Int} {i : Nat} {m : Int} : Rch f i (i + 1) m ↔ m ∈ f i := by
  constructor
  · rintro ⟨x, h, rfl | g, hm⟩
    · exact hm
    · have := g.lt
      omega
  · intro h
    exact ⟨i, Nat.lt_succ_self i, .inl rfl, h⟩
theorem rch_dpd {f : Nat → List Int} {i k : Nat} : (∃ m, m ∈ f k ∧ Rch f i k m) ↔ Dpd f i k := by
  rw [dpd_iff]
  constructor
  · rintro ⟨m, hm, x, h, g, hx⟩
    exact ⟨x, h, ⟨m, hx, hm⟩, g⟩
  · rintro ⟨x, h, ⟨m, hx, hm⟩, g⟩
    exact ⟨m, hm, x, h, g, hx⟩
theorem rch_next {f : Nat → List Int} {i k : Nat} {m : Int} (hk : i < k) : Rch f i (k + 1) m ↔ Rch f i k m ∨ (Dpd f i k ∧ m ∈ f k) := by
  constructor
  · rintro ⟨x, h, g, hm⟩
    by_cases e : x = k
    · subst e
      rcases g with rfl | g
      · omega
      · exact .inr ⟨g, hm⟩
    · exact .inl ⟨x, by omega, g, hm⟩
  · rintro (⟨x, h, g, hm⟩ | ⟨g, hm⟩)
    · exact ⟨x, by omega, g, hm⟩
    · exact ⟨k, Nat.lt_succ_self k, .inr g, hm⟩
section
variable {σ : L2.St} {H : Hp} {te ta tv : TE} {K : PySem.W.Frag} {C : Addr}
/-- for x in (a new tuple) -/
theorem q_forNTn {tu tz : TS} {D : Ends} {xs : List V} {tl : TE} {j : Nat} (h : EvU tl σ H xs) (Pv : Addr → Nat → L2.St → Hp → Prop) (h0 : ∀ p H1, H p = none → Ex H H1 → H1 p = some (.tup xs) → Pv p 0 σ H1) (hl : ∀ p i σ' H', i ≤ xs.length → Pv p i σ' H' → SqT K H' p xs)
    (hs : ∀ p i x σ' H', xs[i]? = some x → Pv p i σ' H' → tu { D with nx := Pv p (i + 1), ct := Pv p (i + 1), bk := tz D } (σ'.set j (some x)) H') (hd : ∀ p σ' H', Pv p xs.length σ' H' → tz D σ' H') : tSeq (tFor (iTup K tl) (gName j) tu) tz D σ H :=
  h H (Ex.refl H) _ fun p H1 hp e h1 => ⟨p, rfl, ⟨xs, st_of h1⟩, for_tup (D := { D with nx := tz D }) (Pv p) (h0 p H1 hp e h1) (hl p) (hs p) (hd p)⟩
/-- x = (a new dict) -/
theorem q_asgD {i : Nat} {Pk : List (Key × V) → Prop} {tz : TS} {D : Ends} (h : EvDk te σ H Pk) (k : ∀ p H1 kvs, H p = none → Ex H H1 → H1 p = some (.dK kvs) → Pk kvs → tz D (σ.set i (some (.ref p))) H1) : tSeq (tAsg te (gName i)) tz D σ H := h H (Ex.refl H) _ fun p H1 kvs hp e h1 hk => k p H1 kvs hp e h1 hk
/-- d.update(a new dict) -/
theorem s_upd {d : Addr} {kvs : List (Key × V)} {Pk : List (Key × V) → Prop} {D : Ends} (ho : Ev ta σ H (.ref d)) (hd : H d = some (.dK kvs)) (h : EvDk te σ H Pk) (hz : ∀ more, Pk more → kvs.length + more.length ≤ 100000) (k : ∀ H1 more, Ex H H1 → Pk more → D.nx σ (upd H1 d (.dK (mergeK kvs more)))) :
    tDrop (tBM K "dict" rUpd ta (tCons te tNil)) D σ H := ho H (Ex.refl H) _ fun H1 e1 => ⟨Or.inr (Or.inr (Or.inl ⟨rfl, Or.inl ⟨kvs, e1 _ _ hd⟩⟩)), h H1 e1 _ fun p H2 more hp e2 h2 hk => ⟨d, p, kvs, more, rfl, rfl, (fun z => by
      subst z
      rw [e1 _ _ hd] at hp
      cases hp), (e1.trans e2) _ _ hd, h2, hz more hk, k H2 more (e1.trans e2) hk⟩⟩
end
section
variable {P : Program} {w : World} {K : PySem.W.Frag} {mg : Str → Option Value} {base : Heap} {C : Addr}
/-- run.depends(j, i) -/
def spDepends (C : Addr) : Sp := fun vs H Q _ => ∃ (a : Addr) (xs : List V) (mss : List (List Int)) (i j : Nat), vs = [.ref a, .int (j : Int), .int (i : Int)] ∧ RnAt C H a xs ∧ RwAt H xs mss ∧ MsOk mss ∧ i < j ∧ j < xs.length ∧ ∀ b : Bool, (b = true ↔ Dpd (mssF mss) i j) → RetV (.bl b) H Q
abbrev nsDep : List Str := ["self", "j", "i", "reached", "meeting", "machine"]
theorem scDep : FnScope nsDep ["self", "j", "i"] (defScope (inClass (topS 10) 9)) := ⟨rfl, rfl, rfl, by decide +kernel, rfl, by decide +kernel, by decide +kernel⟩
theorem ok_depends {f g : Addr} {fd fdg : FuncData} (F : Fun K "depends" "Run.depends" (inClass (topS 10) 9) f fd) (R : RunC K mg C) (GM : CalX P w K mg base CX0 1 "machines_in" spMach) (GT : CalX P w K mg base CX0 2 "takes_any" spTakes) (IX : IxM K C g) (FG : FnOk P w K mg base CX0 3 g fdg ["self", "at"] (spRunGet C)) (BG : Binds K fdg ["self", "at"] []) :
    FnOk P w K mg base CX0 5 f fd ["self", "j", "i"] (spDepends C) := by
  refine F.ok (k := 4) scDep (fun vs H Q E h => ?_) (fun cdv A outer s H vs Q E hr h => ?_)
  · obtain ⟨a, xs, mss, i, j, rfl, _⟩ := h
    rfl
  · obtain ⟨a, xs, mss, i, j, rfl, hrn, hrw, hms, hij, hj, q⟩ := h
    refine ⟨_, pss_cons (ps_setDc (i := 3) (own := [("machine", 5)]) (g := gName 5) (tt := tYes) (tk := tVar 5) (tv := tC (.bl true)) rfl scDep.nd rfl rfl (sw_trueD rfl rfl rfl (by decide +kernel)) (pi_list (pe_cx (E := fun _ => E0) GM hr (by decide) (by rfl) at0 (pa_cons (pe_ixO (E := fun _ => E0) (pv 0) (pv 2) IX FG hr BG at0) pa_nil))) (blkOk_by (own := [("machine", 5)]) (N := nsDep) (sc := defScope (inClass (topS 10) 9)) (by decide +kernel))
        (fun _ _ _ _ _ => pg_name (i := 5) scDep.nd rfl (Or.inl rfl)) (fun _ _ _ _ _ => pts_nil) (fun _ _ _ _ _ => pv 5) (fun _ _ _ _ _ => pe_bl))
      (pss_cons (ps_for PassesOwn.never rfl (pi_tup (pe_slice sl_tup (pe_fld (pv 0) rfl) (po_some (pe_op op_add (pv 2) pe_int)) (po_some (pv 1)))) (pg_name (i := 4) scDep.nd rfl (Or.inl rfl))
        (pss_one (ps_if (pt_val (pe_cx (E := fun _ => E0) GT hr (by decide) (by rfl) at0 (pa_cons (pv 4) (pa_cons (pv 3) pa_nil))))
          (pss_one (ps_expr (pe_bm PySem.F.plainAttrs_dict PySem.F.slot_dict_update PySem.F.type_dict_update mt_update (pv 3) (pa_cons
            (pe_dc (own := [("machine", 5)]) (g := gName 5) (tt := tYes) (tk := tVar 5) (tv := tC (.bl true)) rfl scDep.nd (pi_list (pe_cx (E := fun _ => E0) GM hr (by decide) (by rfl) at0 (pa_cons (pv 4) pa_nil))) (blkOk_by (own := [("machine", 5)]) (N := nsDep) (sc := defScope (inClass (topS 10) 9)) (by decide +kernel))
              (fun _ _ _ _ _ => pg_name (i := 5) scDep.nd rfl (Or.inl rfl)) (fun _ _ _ _ _ => pts_nil) (fun _ _ _ _ _ => pv 5) (fun _ _ _ _ _ => pe_bl)) pa_nil)))) pss_nil)))
      (pss_one (ps_ret (pe_cx (E := fun _ => E0) GT hr (by decide) (by rfl) at0 (pa_cons (pe_ixO (E := fun _ => E0) (pv 0) (pv 1) IX FG hr BG at0) (pa_cons (pv 3) pa_nil)))))), ?_⟩
    obtain ⟨vi, hvi, hmi, hzi⟩ := rw_get hrw hms (Nat.lt_trans hij hj)
    obtain ⟨vj, hvj, hmj, hzj⟩ := rw_get hrw hms hj
    refine q_asgD (ed_dcN (K := K) (ms := mssF mss i) (z := .bl true) (el_cx (ea_cons (ev_ixO (ev_var rfl) (ev_var rfl) hrn hvi) ea_nil) (fun H1 e1 Q1 q1 E1 => ⟨vi, _, rfl, hmi.ex e1, hzi, fun p H2 hp e2 h2 => q1 p H2 hp e2 h2⟩)) hzi (fun _ => rfl) (fun m H1 => ev_var rfl) (fun m H1 => ev_c)) (fun d H1 kvs hd e1 h1 hk => ?_)
    obtain ⟨⟨hk1, hk2⟩, hk3⟩ := hk
    obtain ⟨dx, t, r1, r2⟩ := hrn
    have hsx1 : HT.sIx xs.length 0 (some ((i : Int) + 1)) = i + 1 := by
      rw [show (i : Int) + 1 = ((i + 1 : Nat) : Int) by omega, HT.sIx_nat]
      omega
    have hsx2 : HT.sIx xs.length xs.length (some (j : Int)) = j := by
      rw [HT.sIx_nat]
      omega
    have hcl : (cutV xs (some ((i : Int) + 1)) (some (j : Int))).length = j - (i + 1) := by
      unfold cutV
      rw [hsx1, hsx2, List.length_take, List.length_drop]
      omega
    refine q_forNTn (xs := cutV xs (some ((i : Int) + 1)) (some (j : Int))) (eu_slT (K := K) (ev_fld (ev_var rfl) (e1 _ _ r1) R.cl R.nR rn_lookup) (eo_some (ev_op (y := .int 1) (ev_var rfl) ev_c rv_I0)) (eo_some (ev_var rfl)) (st_of (e1 _ _ r2)) (by rw [hsx1]; omega))
      (fun p n σ' H' => ∃ (v4 : Option V) (ks : List (Key × V)), n ≤ j - (i + 1) ∧ σ' = [some (.ref a), some (.int (j : Int)), some (.int (i : Int)), some (.ref d), v4, none] ∧ Ex H H' ∧ H' d = some (.dK ks) ∧ H' p = some (.tup (cutV xs (some ((i : Int) + 1)) (some (j : Int)))) ∧ ks.length ≤ 20 * (n + 1) ∧ ∀ m : Int, (valV ks (.inl m : Key)).isSome = true ↔ Rch (mssF mss) i (i + 1 + n) m)
      (fun p H2 hp e2 h2 => ⟨none, kvs, Nat.zero_le _, rfl, e1.trans e2, e2 _ _ h1, h2, by omega, fun m => by rw [hk2 m, Nat.add_zero, rch_first]⟩) (fun p n σ' H' _ ⟨v4, ks, _, _, _, _, hp, _⟩ => st_of hp) (fun p n x σ' H' hx ⟨v4, ks, hn, hσ, he, hdk, hp, hkl, hkm⟩ => ?_) (fun p σ' H' ⟨v4, ks, hn, hσ, he, hdk, hp, hkl, hkm⟩ => ?_)
    · subst hσ
      have hlt := (List.getElem?_eq_some_iff.mp hx).1
      rw [hcl] at hlt
      obtain ⟨vk, hvk, hmk, hzk⟩ := rw_get hrw hms (show i + 1 + n < xs.length by omega)
      have ex : x = vk := by
        unfold cutV at hx
        rw [hsx1, hsx2, List.getElem?_take_of_lt hlt, List.getElem?_drop, hvk] at hx
        exact (Option.some.inj hx).symm
      subst ex
      have hb : ∀ b : Bool, b = ((mssF mss (i + 1 + n)).any fun m => (valV ks (.inl m : Key)).isSome) → (b = true ↔ Dpd (mssF mss) i (i + 1 + n)) := fun b e => by
        rw [e, List.any_eq_true, ← rch_dpd]
        exact ⟨fun ⟨m, h1, h2⟩ => ⟨m, h1, (hkm m).mp h2⟩, fun ⟨m, h1, h2⟩ => ⟨m, h1, (hkm m).mpr h2⟩⟩
      refine s_when (b := (mssF mss (i + 1 + n)).any fun m => (valV ks (.inl m : Key)).isSome) (et_B (ev_cx (ea_cons (ev_var rfl) (ea_cons (ev_var rfl) ea_nil)) (fun H2 e2 Q2 q2 E2 => ⟨x, d, _, ks, rfl, hmk.ex (he.trans e2), hzk, e2 _ _ hdk, fun H3 e3 => q2 H3 e3⟩))) (fun hb1 H2 e2 => ?_) (fun hb1 H2 e2 => ?_)
      · refine s_upd (kvs := ks) (ev_var rfl) (e2 _ _ hdk) (ed_dcN (K := K) (ms := mssF mss (i + 1 + n)) (z := .bl true) (el_cx (ea_cons (ev_var rfl) ea_nil) (fun H3 e3 Q3 q3 E3 => ⟨x, _, rfl, hmk.ex ((he.trans e2).trans e3), hzk, fun p H4 hp e4 h4 => q3 p H4 hp e4 h4⟩)) hzk (fun _ => rfl) (fun m H3 => ev_var rfl) (fun m H3 => ev_c)) (fun more hm => by have := hm.1.1; have := hms.1; have := LsA.length hrw; omega) (fun H3 more e3 hm => ?_)
        have hpd : p ≠ d := fun z => by
          subst z
          rw [hdk] at hp
          cases hp
        refine ⟨_, mergeK ks more, by omega, rfl, Ex.mut ((he.trans e2).trans e3) hd, upd_same, by rw [upd_ne hpd]; exact (e2.trans e3) _ _ hp, ?_, fun m => ?_⟩
        · have := length_mergeK more ks
          have := hm.1.1
          omega
        · rw [mergeK_some (fun p hp => hm.2 p hp) m, Bool.or_eq_true, hkm m, hm.1.2 m, show i + 1 + (n + 1) = i + 1 + n + 1 by omega, rch_next (by omega)]
          exact ⟨fun h => h.elim .inl (fun g => .inr ⟨(hb _ rfl).mp hb1, g⟩), fun h => h.elim .inl (fun g => .inr g.2)⟩
      · refine ⟨_, ks, by omega, rfl, he.trans e2, e2 _ _ hdk, e2 _ _ hp, by omega, fun m => ?_⟩
        rw [hkm m, show i + 1 + (n + 1) = i + 1 + n + 1 by omega, rch_next (by omega)]
        have hnd : ¬ Dpd (mssF mss) i (i + 1 + n) := fun z => by
          have := (hb _ rfl).mpr z
          rw [this] at hb1
          cases hb1
        exact ⟨.inl, fun h => h.elim id (fun g => absurd g.1 hnd)⟩
    · subst hσ
      rw [hcl] at hkm
      have ej : i + 1 + (j - (i + 1)) = j := by omega
      rw [ej] at hkm
      refine s_ret (v := .bl ((mssF mss j).any fun m => (valV ks (.inl m : Key)).isSome)) (ev_cx (ea_cons (ev_ixO (ev_var rfl) (ev_var rfl) (RnAt.ex he ⟨dx, t, r1, r2⟩) hvj) (ea_cons (ev_var rfl) ea_nil)) (fun H2 e2 Q2 q2 E2 => ⟨vj, d, _, ks, rfl, hmj.ex (he.trans e2), hzj, e2 _ _ hdk, fun H3 e3 => q2 H3 e3⟩)) (fun H2 e2 => q _ ?_ H2 (he.trans e2))
      rw [List.any_eq_true, ← rch_dpd]
      exact ⟨fun ⟨m, h1, h2⟩ => ⟨m, h1, (hkm m).mp h2⟩, fun ⟨m, h1, h2⟩ => ⟨m, h1, (hkm m).mpr h2⟩⟩
end
end Fs

set_option Elab.async false
set_option linter.all false
set_option maxRecDepth 100000
set_option maxHeartbeats 8000000
namespace Fs
open PySem L2 Evl FsE FsC FsR FsK
theorem row_get0 {row : List Int} {n i : Nat} (hl : row.length = n) (hr : RowOk row) (hi : i < n) : ∃ v, atI (row.map V.int) (i : Int) = some (.int v) ∧ 0 ≤ v ∧ v < 1000 := by
  have h : i < row.length := by omega
  refine ⟨row[i], atI_nat (by rw [List.getElem?_map, List.getElem?_eq_getElem h]; rfl), ?_⟩
  exact hr _ (List.getElem_mem h)
section
variable {σ : L2.St} {H : Hp} {te ta tb : TE} {K : PySem.W.Frag} {C : Addr}
/-- arguments, with a word of their values -/
def EaW (ta : TA) (σ : L2.St) (H : Hp) (Pv : List V → Hp → Prop) : Prop := ∀ H1, Ex H H1 → ∀ Q : List V → Hp → Prop, (∀ vs H2, Ex H1 H2 → Pv vs H2 → Q vs H2) → ta σ H1 Q
/-- a new list of ints -/
def NwI (H0 H : Hp) (v : V) (ms : List Int) : Prop := ∃ l, v = .ref l ∧ H0 l = none ∧ H l = some (.lst (ms.map V.int))
theorem eaw_nil {H0 : Hp} : EaW tNil σ H (fun vs H' => LsA (NwI H0) H' vs []) := fun H1 e Q q => q [] H1 (Ex.refl H1) trivial
theorem eaw_cons {H0 : Hp} {tr : TA} {ms : List Int} {mss : List (List Int)} (e0 : Ex H0 H) (h : EvL te σ H (ms.map V.int)) (hr : EaW tr σ H (fun vs H' => LsA (NwI H0) H' vs mss)) : EaW (tCons te tr) σ H (fun vs H' => LsA (NwI H0) H' vs (ms :: mss)) := fun H1 e Q q =>
  h H1 e _ fun p H2 hp e2 h2 => hr H2 (e.trans e2) _ fun vs H3 e3 hv => q (.ref p :: vs) H3 (e2.trans e3) ⟨⟨p, rfl, fresh_back (e0.trans e) hp, e3 _ _ h2⟩, hv⟩
theorem eaw_n {ta' : TA} {vs : List V} (h : EvA ta' σ H vs) : EaW ta' σ H (fun ws _ => ws.length = vs.length) := fun H1 e Q q => h H1 e _ fun H2 e2 => q vs H2 e2 rfl
theorem eawl_nil : EaW tNil σ H (fun vs _ => vs.length = 0) := fun H1 e Q q => q [] H1 (Ex.refl H1) rfl
theorem eawl_v {tr : TA} {n : Nat} {v : V} (h : Ev te σ H v) (hr : EaW tr σ H (fun vs _ => vs.length = n)) : EaW (tCons te tr) σ H (fun vs _ => vs.length = n + 1) := fun H1 e Q q =>
  h H1 e _ fun H2 e2 => hr H2 (e.trans e2) _ fun vs H3 e3 hv => q (v :: vs) H3 (e2.trans e3) (congrArg (· + 1) hv)
theorem eawl_u {tr : TA} {n : Nat} {xs : List V} (h : EvU te σ H xs) (hr : EaW tr σ H (fun vs _ => vs.length = n)) : EaW (tCons te tr) σ H (fun vs _ => vs.length = n + 1) := fun H1 e Q q =>
  h H1 e _ fun p H2 hp e2 h2 => hr H2 (e.trans e2) _ fun vs H3 e3 hv => q (.ref p :: vs) H3 (e2.trans e3) (congrArg (· + 1) hv)
/-- a meeting made -/
theorem evs_mt {cs ps : List V} {ns : List Int} (h1 : EvU ta σ H cs) (h2 : EvU tb σ H ps) (hp : LsA PtAt H ps ns) : EvS (tTup (tCons ta (tCons tb tNil))) σ H (fun v H' => MtAt H' v ns) := fun H1 e Q q =>
  h1 H1 e _ fun p H2 hp2 e2 k2 => h2 H2 (e.trans e2) _ fun t H3 ht3 e3 k3 => ⟨by show 2 ≤ sizeLine; decide, fun u hu => q (.ref u) _ (e2.trans (e3.trans (Ex.new hu))) ⟨u, t, .ref p, ps, rfl, upd_same, Ex.new hu _ _ k3, hp.imp fun _ _ k => k.keep (ExN.of (e.trans (e2.trans (e3.trans (Ex.new hu)))))⟩⟩
/-- [..][i] -/
theorem evs_ix {ta : TA} {i : Int} {Pv : List V → Hp → Prop} (h : EaW ta σ H Pv) (hz : ∀ vs H', Pv vs H' → vs.length ≤ 1000 ∧ 0 ≤ i ∧ i < vs.length) (hb : ∀ H1, Ex H H1 → Ev tb σ H1 (.int i)) :
    EvS (tOp (rIxL K) (tLst ta) tb) σ H (fun v H' => ∃ (vs : List V) (H0 : Hp) (j : Nat), Ex H0 H' ∧ Pv vs H0 ∧ vs[j]? = some v ∧ (j : Int) = i) := fun H1 e Q q =>
  h H1 e _ fun vs H2 e2 hv => by
    obtain ⟨z1, z2, z3⟩ := hz vs H2 hv
    refine ⟨sz_of (by omega), fun p hp => ?_⟩
    refine hb _ ((e.trans e2).trans (Ex.new hp)) _ (Ex.refl _) _ fun H3 e3 => ?_
    have hj : i.toNat < vs.length := by omega
    refine ⟨p, vs, i, vs[i.toNat], rfl, rfl, sq_of (e3 _ _ upd_same), ?_, q _ H3 (e2.trans ((Ex.new hp).trans e3)) ⟨vs, H2, i.toNat, (Ex.new hp).trans e3, hv, List.getElem?_eq_getElem hj, by omega⟩⟩
    have := atI_nat (xs := vs) (j := i.toNat) (List.getElem?_eq_getElem hj)
    rwa [show ((i.toNat : Nat) : Int) = i by omega] at this
end
section
variable {P : Program} {w : World} {K : PySem.W.Frag} {mg : Str → Option Value} {base : Heap} {C : Addr}
/-- _law_meetings(row) -/
def spMeetings : Sp := fun vs H Q _ => ∃ (r : Addr) (row : List Int), vs = [.ref r] ∧ H r = some (.lst (row.map V.int)) ∧ row.length = 20 ∧ RowOk row ∧ ∀ p H2 xs mss, H p = none → Ex H H2 → H2 p = some (.lst xs) → RwAt H2 xs mss → MsOk mss → Q (.ref p) H2
abbrev nsMee : List Str := ["_law_row_here", "_law_found", "_law_k", "_law_at", "_law_parts", "_law_machines", "_law_machine", "_law_worth"]
theorem scMee : FnScope nsMee ["_law_row_here"] (defScope (topS 18)) := ⟨rfl, rfl, rfl, by decide +kernel, rfl, by decide +kernel, by decide +kernel⟩
def machT : List (List Int) := [[0, 1], [1, 2], [2, 0], [3, 1], [0], [2, 3, 0], [], [1, 1], [4, 2], [3]]
theorem mach_len : ∀ ms ∈ machT, ms.length ≤ 3 := by decide
theorem at_of0 {α : Type} {xs : List α} {i : Int} (h0 : 0 ≤ i) (h1 : i < xs.length) : ∃ (j : Nat) (x : α), xs[j]? = some x ∧ atI xs i = some x := by
  obtain ⟨j, rfl⟩ : ∃ j : Nat, i = (j : Int) := ⟨i.toNat, by omega⟩
  have hj : j < xs.length := by omega
  exact ⟨j, xs[j], List.getElem?_eq_getElem hj, atI_nat (List.getElem?_eq_getElem hj)⟩
theorem lsa_get {α : Type} {R : Hp → V → α → Prop} {H : Hp} {vs : List V} {xs : List α} {j : Nat} {v : V} (h : LsA R H vs xs) (hv : vs[j]? = some v) : ∃ x ∈ xs, R H v x := by
  obtain ⟨x, h1, h2⟩ := LsA.get h hv
  exact ⟨x, List.mem_of_getElem? h1, h2⟩
theorem ok_mee {f : Addr} {fd : FuncData} (F : Fun K "_law_meetings" "_law_meetings" (topS 18) f fd) (L : LawT K mg) (htup : mg "tuple" = none) : FnOk P w K mg base CX0 1 f fd ["_law_row_here"] spMeetings := by
  refine F.ok scMee (fun vs H Q E h => ?_) (fun cdv A outer s H vs Q E hr h => ?_)
  · obtain ⟨r, row, rfl, _⟩ := h
    rfl
  · obtain ⟨r, row, rfl, hR, hl, hok, q⟩ := h
    refine ⟨_, pss_cons (ps_set (i := 1) scMee.nd rfl (Or.inl rfl) (pe_lst pa_nil))
      (pss_cons (ps_for PassesOwn.never rfl (pi_range1 rfl L.range (pa_cons (pe_op op_mod (pe_op op_fdiv (pe_ix ix_list (pv 0) pe_int (fun _ _ => rfl)) pe_int) pe_int) pa_nil)) (pg_name (i := 2) scMee.nd rfl (Or.inl rfl))
        (pss_cons (ps_set (i := 3) scMee.nd rfl (Or.inl rfl) (pe_op op_add pe_int (pe_op op_mul pe_int (pv 2))))
        (pss_cons (ps_set (i := 4) scMee.nd rfl (Or.inl rfl) (pe_lst pa_nil))
        (pss_cons (ps_set (i := 5) scMee.nd rfl (Or.inl rfl) (pe_ix ix_list (pe_lst (pa_cons (pe_lst (pa_cons pe_int (pa_cons pe_int pa_nil))) (pa_cons (pe_lst (pa_cons pe_int (pa_cons pe_int pa_nil))) (pa_cons (pe_lst (pa_cons pe_int (pa_cons pe_int pa_nil))) (pa_cons (pe_lst (pa_cons pe_int (pa_cons pe_int pa_nil))) (pa_cons (pe_lst (pa_cons pe_int pa_nil))
            (pa_cons (pe_lst (pa_cons pe_int (pa_cons pe_int (pa_cons pe_int pa_nil)))) (pa_cons (pe_lst pa_nil) (pa_cons (pe_lst (pa_cons pe_int (pa_cons pe_int pa_nil))) (pa_cons (pe_lst (pa_cons pe_int (pa_cons pe_int pa_nil))) (pa_cons (pe_lst (pa_cons pe_int pa_nil)) pa_nil)))))))))))
            (pe_op op_mod (pe_callTy call_int1 (by rfl) L.int (by decide +kernel) (pa_cons (pe_ix ix_list (pv 0) (pv 3) (fun _ _ => rfl)) pa_nil)) pe_int) (fun _ _ => rfl)))
        (pss_cons (ps_for PassesOwn.never rfl (pi_list (pv 5)) (pg_name (i := 6) scMee.nd rfl (Or.inl rfl))
          (pss_cons (ps_set (i := 7) scMee.nd rfl (Or.inl rfl) (pe_ix ix_list (pe_lst (pa_cons pe_int (pa_cons (pe_tup (pa_cons pe_int (pa_cons pe_int (pa_cons pe_int pa_nil)))) (pa_cons (pe_un un_neg pe_int) (pa_cons (pe_tup (pa_cons pe_int (pa_cons pe_int (pa_cons pe_int pa_nil)))) pa_nil)))))
            (pe_op op_mod (pe_op op_fdiv (pe_ix ix_list (pv 0) (pe_op op_add (pv 3) pe_int) (fun _ _ => rfl)) pe_int) pe_int) (fun _ _ => rfl)))
          (pss_one (ps_expr (pe_bm PySem.F.plainAttrs_list PySem.F.slot_list_append PySem.F.type_list_append mt_append (pv 4) (pa_cons (pe_tup (pa_cons (pv 6) (pa_cons (pe_op op_mod (pe_op op_fdiv (pe_ix ix_list (pv 0) (pe_op op_add (pv 3) pe_int) (fun _ _ => rfl)) pe_int) pe_int) (pa_cons (pe_op op_mod (pe_op op_fdiv (pe_ix ix_list (pv 0) (pv 3) (fun _ _ => rfl)) pe_int) pe_int) (pa_cons (pv 7) pa_nil))))) pa_nil))))))
        (pss_one (ps_expr (pe_bm PySem.F.plainAttrs_list PySem.F.slot_list_append PySem.F.type_list_append mt_append (pv 1) (pa_cons (pe_tup (pa_cons (pe_tup (pa_cons (pe_op op_mod (pe_op op_fdiv (pe_ix ix_list (pv 0) (pv 3) (fun _ _ => rfl)) pe_int) pe_int) (pa_cons (pe_op op_mod (pe_op op_fdiv (pe_ix ix_list (pv 0) (pv 3) (fun _ _ => rfl)) pe_int) pe_int) (pa_cons (pe_callB call_len_seq (by rfl) L.len PySem.boot_len (pa_cons (pv 4) pa_nil)) pa_nil))))
            (pa_cons (pe_callTy call_tuple_of (by rfl) htup (by decide +kernel) (pa_cons (pv 4) pa_nil)) pa_nil))) pa_nil)))))))))
      (pss_cons (ps_if (PW.pt (pw_and (pt_cmpR (op_neNil hr.units0) (pv 1) (pe_lst pa_nil) (nomark _)) (pw_and1 (pt_cmpR op_eq (pe_op op_mod (pe_callTy call_int1 (by rfl) L.int (by decide +kernel) (pa_cons (pe_ix ix_list (pv 0) pe_int (fun _ _ => rfl)) pa_nil)) pe_int) pe_int (nomark _)))))
        (pss_one (ps_expr (pe_bm PySem.F.plainAttrs_list PySem.F.slot_list_append PySem.F.type_list_append mt_append (pv 1) (pa_cons (pe_ix ix_list (pv 1) (pe_op op_mod (pe_op op_fdiv (pe_ix ix_list (pv 0) pe_int (fun _ _ => rfl)) pe_int) (pe_callB call_len_seq (by rfl) L.len PySem.boot_len (pa_cons (pv 1) pa_nil))) (fun _ _ => rfl)) pa_nil)))) pss_nil)
      (pss_one (ps_ret (pv 1))))), ?_⟩
    obtain ⟨v0, av0, b0, b1⟩ := row_get0 hl hok (i := 0) (by decide)
    have av0 : atI (row.map V.int) 0 = some (.int v0) := av0
    have n0 := Int.emod_nonneg (v0 / 4) (b := 10) (by decide)
    have n1 := Int.emod_lt_of_pos (v0 / 4) (b := 10) (by decide)
    have frow : ∀ {σ : L2.St} {H9 : Hp} {tb : TE} {i : Nat} {v : Int}, σ[0]? = some (some (.ref r)) → Ex H H9 → atI (row.map V.int) (i : Int) = some (.int v) → Ev tb σ H9 (.int (i : Int)) → Ev (tOp (rIxL K) (tVar 0) tb) σ H9 (.int v) := fun hσ e ha hb => ev_op (ev_var hσ) hb (rv_ixL (sq_of (e _ _ hR)) ha)
    refine q_asgL (xs := []) (el_lst ea_nil (by decide)) (fun l H1 hl1 e1 h1 => ?_)
    refine q_forR1 (n := v0 / 4 % 10) (ea_cons (ev_op (x := .int (v0 / 4)) (ev_op (x := .int v0) (y := .int 4) (ev_op (y := .int 0) (ev_var rfl) ev_c (rv_ixL (sq_of (e1 _ _ hR)) av0)) ev_c (rv_I ⟨by decide, by decide⟩)) ev_c (rv_I (by decide))) ea_nil) (by omega)
      (fun k σ' H' => ∃ (v2 v3 v4 v5 v6 v7 : Option V) (xs : List V) (mss : List (List Int)), σ' = [some (.ref r), some (.ref l), v2, v3, v4, v5, v6, v7] ∧ Ex H H' ∧ H' l = some (.lst xs) ∧ RwAt H' xs mss ∧ mss.length = k ∧ ∀ ms ∈ mss, ms.length ≤ 3)
      (fun H2 e2 => ⟨_, _, _, _, _, _, [], [], rfl, e1.trans e2, e2 _ _ h1, trivial, rfl, fun ms hm => nomatch hm⟩) (fun k σ' H' hk ⟨v2, v3, v4, v5, v6, v7, xs, mss, hσ, he, hx, hw, hc, hs3⟩ => ?_) (fun σ' H' ⟨v2, v3, v4, v5, v6, v7, xs, mss, hσ, he, hx, hw, hc, hs3⟩ => ?_)
    · subst hσ
      have hk9 : k ≤ 8 := by omega
      obtain ⟨va, ava, a0, a1⟩ := row_get0 hl hok (i := 1 + 2 * k) (by omega)
      obtain ⟨vb, avb, c0, c1⟩ := row_get0 hl hok (i := 1 + 2 * k + 1) (by omega)
      refine q_asg (v := .int ((1 + 2 * k : Nat) : Int)) (ev_is (ev_op (x := .int 1) ev_c (ev_op (x := .int 2) (y := .int (k : Int)) ev_c (ev_var rfl) (rv_I (C := CMul) (.inl ⟨by decide, by decide⟩))) rv_I0) (congrArg V.int (by omega))) (fun H2 e2 => ?_)
      refine q_asgL (xs := []) (el_lst ea_nil (by decide)) (fun lp H3 hl3 e3 h3 => ?_)
      have x2 := he.trans e2
      have x3 := x2.trans e3
      have eI : ∀ {a b : Int} {σ : L2.St} {H9 : Hp}, EvL (tLst (tCons (tC (.int a)) (tCons (tC (.int b)) tNil))) σ H9 (([a, b] : List Int).map V.int) := fun {a b σ H9} => el_lst (ea_cons ev_c (ea_cons ev_c ea_nil)) (by show 2 ≤ 100000; decide)
      have eI1 : ∀ {a : Int} {σ : L2.St} {H9 : Hp}, EvL (tLst (tCons (tC (.int a)) tNil)) σ H9 (([a] : List Int).map V.int) := fun {a σ H9} => el_lst (ea_cons ev_c ea_nil) (by show 1 ≤ 100000; decide)
      have eI3 : ∀ {a b c : Int} {σ : L2.St} {H9 : Hp}, EvL (tLst (tCons (tC (.int a)) (tCons (tC (.int b)) (tCons (tC (.int c)) tNil)))) σ H9 (([a, b, c] : List Int).map V.int) := fun {a b c σ H9} => el_lst (ea_cons ev_c (ea_cons ev_c (ea_cons ev_c ea_nil))) (by show 3 ≤ 100000; decide)
      have eI0 : ∀ {σ : L2.St} {H9 : Hp}, EvL (tLst tNil) σ H9 (([] : List Int).map V.int) := fun {σ H9} => el_lst ea_nil (by show 0 ≤ 100000; decide)
      have r3 : Ex H3 H3 := Ex.refl H3
      refine q_asgS (evs_ix (K := K) (i := va % 10) (Pv := fun vs H' => LsA (NwI H3) H' vs machT) (eaw_cons r3 eI (eaw_cons r3 eI (eaw_cons r3 eI (eaw_cons r3 eI (eaw_cons r3 eI1 (eaw_cons r3 eI3 (eaw_cons r3 eI0 (eaw_cons r3 eI (eaw_cons r3 eI (eaw_cons r3 eI1 eaw_nil))))))))))
        (fun vs H9 hv => by have := LsA.length hv; have h10 : machT.length = 10 := rfl; have := Int.emod_nonneg va (b := 10) (by decide); have := Int.emod_lt_of_pos va (b := 10) (by decide); omega)
        (fun H9 e9 => ev_op (x := .int va) (ev_cb (ea_cons (frow rfl (x3.trans e9) ava (ev_var rfl)) ea_nil) (rc_int (K := K))) ev_c (rv_I (by decide)))) (fun v H4 e4 ⟨vs, H0, j, f0, hv, hj, _⟩ => ?_)
      obtain ⟨ns, hns, lm, rfl, hlm, hlm2⟩ := lsa_get hv hj
      have hlm4 := f0 _ _ hlm2
      have hn3 := mach_len ns hns
      have nlm : lm ≠ lp := fun z => by
        subst z
        rw [h3] at hlm
        cases hlm
      have nl : l ≠ lp := fun z => by
        subst z
        rw [e2 _ _ hx] at hl3
        cases hl3
      refine q_forLn (a := lm) (xs := ns.map V.int) (ev_var rfl) (sq_of hlm4) (fun i σ' H' => ∃ (v6 v7 : Option V) (ps : List V), i ≤ ns.length ∧ σ' = [some (.ref r), some (.ref l), some (.int (k : Int)), some (.int ((1 + 2 * k : Nat) : Int)), some (.ref lp), some (.ref lm), v6, v7] ∧ Ex H2 H' ∧ H' lm = some (.lst (ns.map V.int)) ∧ H' lp = some (.lst ps) ∧ LsA PtAt H' ps (ns.take i))
        (fun H5 e5 => ⟨_, _, [], Nat.zero_le _, rfl, e3.trans (e4.trans e5), e5 _ _ hlm4, (e4.trans e5) _ _ h3, by rw [List.take_zero]; trivial⟩) (fun i σ' H' _ ⟨_, _, _, _, _, _, hm, _⟩ => sq_of hm) (fun i x σ' H' hxi ⟨u6, u7, ps, hi, hσ, hE, hm, hpl, hpp⟩ => ?_) (fun σ' H' ⟨u6, u7, ps, hi, hσ, hE, hm, hpl, hpp⟩ => ?_)
      · subst hσ
        obtain ⟨m, hmi, rfl⟩ : ∃ m, ns[i]? = some m ∧ x = V.int m := by
          rw [List.getElem?_map] at hxi
          cases e : ns[i]? with
          | none => rw [e] at hxi; cases hxi
          | some m => rw [e] at hxi; exact ⟨m, rfl, (Option.some.inj hxi).symm⟩
        have hilt := (List.getElem?_eq_some_iff.mp hmi).1
        have eb : ∀ {σ : L2.St} {H9 : Hp}, σ[0]? = some (some (.ref r)) → σ[3]? = some (some (.int ((1 + 2 * k : Nat) : Int))) → Ex H H9 → Ev (tOp (rIxL K) (tVar 0) (tOp (rI0 fun i j => .int (i + j)) (tVar 3) (tC (.int 1)))) σ H9 (.int vb) := fun hσ h3 e => frow hσ e avb (ev_is (ev_op (ev_var h3) ev_c rv_I0) (congrArg V.int (by omega)))
        refine q_asgS (evs_ix (K := K) (i := vb / 6 % 4) (Pv := fun vs _ => vs.length = 4) (eawl_v ev_c (eawl_u (eu_tup (ea_cons ev_c (ea_cons ev_c (ea_cons ev_c ea_nil))) (by show 3 ≤ 100000; decide)) (eawl_v (ev_un ev_c ru_neg) (eawl_u (eu_tup (ea_cons ev_c (ea_cons ev_c (ea_cons ev_c ea_nil))) (by show 3 ≤ 100000; decide)) eawl_nil))))
          (fun vs H9 hv => by have := Int.emod_nonneg (vb / 6) (b := 4) (by decide); have := Int.emod_lt_of_pos (vb / 6) (b := 4) (by decide); omega)
          (fun H9 e9 => ev_op (x := .int (vb / 6)) (ev_op (x := .int vb) (y := .int 6) (eb rfl rfl (x2.trans (hE.trans e9))) ev_c (rv_I ⟨by decide, by decide⟩)) ev_c (rv_I (by decide)))) (fun wv H5 e5 _ => ?_)
        have y5 := x2.trans (hE.trans e5)
        refine s_appU (xs := ps) (ys := [.int m, .int (vb / 24 % 3), .int (va / 10 % 2), wv]) (e5 _ _ hpl) (ev_var rfl) (eu_tup (ea_cons (ev_var rfl) (ea_cons (ev_op (x := .int (vb / 24)) (ev_op (x := .int vb) (y := .int 24) (eb rfl rfl y5) ev_c (rv_I ⟨by decide, by decide⟩)) ev_c (rv_I (by decide))) (ea_cons (ev_op (x := .int (va / 10)) (ev_op (x := .int va) (y := .int 10) (frow rfl y5 ava (ev_var rfl)) ev_c (rv_I ⟨by decide, by decide⟩)) ev_c (rv_I (by decide))) (ea_cons (ev_var rfl) ea_nil)))) (by show 4 ≤ 100000; decide)) (by have := LsA.length hpp; rw [List.length_take] at this; omega) (fun p H6 hp e6 h6 => ?_)
        have hpl6 := (e5.trans e6) _ _ hpl
        refine ⟨_, _, ps ++ [.ref p], by omega, rfl, Ex.mut (hE.trans (e5.trans e6)) hl3, by rw [upd_ne nlm]; exact (e5.trans e6) _ _ hm, upd_same, ?_⟩
        rw [List.take_add_one, hmi]
        exact LsA.snoc (hpp.imp fun _ _ z => z.keep ((ExN.of (e5.trans e6)).trans (ExN.upd hpl6))) ⟨p, _, _, _, rfl, (ExN.upd hpl6).tup _ _ h6⟩
      · subst hσ
        rw [List.length_map, List.take_length] at hpp
        have hx' := hE _ _ (e2 _ _ hx)
        have y := x2.trans hE
        refine s_appS (xs := xs) hx' (ev_var rfl) (evs_mt (cs := [.int (va / 20 % 2), .int (va / 40 % 2), .int (ps.length : Int)]) (ps := ps) (ns := ns) (eu_tup (ea_cons (ev_op (x := .int (va / 20)) (ev_op (x := .int va) (y := .int 20) (frow rfl y ava (ev_var rfl)) ev_c (rv_I ⟨by decide, by decide⟩)) ev_c (rv_I (by decide))) (ea_cons (ev_op (x := .int (va / 40)) (ev_op (x := .int va) (y := .int 40) (frow rfl y ava (ev_var rfl)) ev_c (rv_I ⟨by decide, by decide⟩)) ev_c (rv_I (by decide))) (ea_cons (ev_len (K := K) (ev_var rfl) (sq_of hpl)) ea_nil))) (by show 3 ≤ 100000; decide)) (eu_tupL (ev_var rfl) (sq_of hpl)) hpp) (by have := LsA.length hw; omega) (fun mv H7 e7 hmt => ?_)
        have hx7 := e7 _ _ hx'
        refine ⟨_, _, _, _, _, _, xs ++ [mv], mss ++ [ns], rfl, Ex.mut (y.trans e7) hl1, upd_same, ?_, by rw [List.length_append, hc]; rfl, fun ms hm => ?_⟩
        · exact LsA.snoc (LsA.imp (fun _ _ z => MtAt.keep ((ExN.of ((e2.trans hE).trans e7)).trans (ExN.upd hx7)) z) hw) (hmt.keep (ExN.upd hx7))
        · rcases List.mem_append.mp hm with hm | hm
          · exact hs3 ms hm
          · rw [List.mem_singleton.mp hm]
            exact hn3
    · subst hσ
      have hcn : mss.length ≤ 9 := by omega
      have hlx := LsA.length hw
      refine q_when (b := (!xs.isEmpty) && decide (V.int (v0 % 4) = V.int 0)) (et_and (et_test (ev_opL (ev_var rfl) (el_lst ea_nil (by decide)) (fun p H9 hp e9 => rv_neNil (sq_of (e9 _ _ hx)) (sq_of hp)))) (fun _ => et_test (ev_op (x := .int (v0 % 4)) (ev_op (x := .int v0) (ev_cb (ea_cons (ev_op (y := .int 0) (ev_var rfl) ev_c (rv_ixL (sq_of (he _ _ hR)) av0)) ea_nil) (rc_int (K := K))) ev_c (rv_I (by decide))) ev_c (rv_eq rfl)))) (fun hb H3 e3 => ?_) (fun hb H3 e3 => ?_)
      · have hne : 0 < xs.length := by
          rw [Bool.and_eq_true] at hb
          cases xs with
          | nil => exact absurd hb.1 (by decide)
          | cons a b => simp
        have hpos : (0 : Int) < (xs.length : Int) := by omega
        obtain ⟨j, x, hj, aj⟩ := at_of0 (xs := xs) (i := v0 / 40 % (xs.length : Int)) (Int.emod_nonneg _ (by omega)) (Int.emod_lt_of_pos _ hpos)
        obtain ⟨ms, hms, hmx⟩ := lsa_get hw hj
        have hx3 := e3 _ _ hx
        refine s_app (xs := xs) (v := x) hx3 (ev_var rfl) (ev_op (y := .int (v0 / 40 % (xs.length : Int))) (ev_var rfl) (ev_op (x := .int (v0 / 40)) (y := .int (xs.length : Int)) (ev_op (x := .int v0) (y := .int 40) (ev_op (y := .int 0) (ev_var rfl) ev_c (rv_ixL (sq_of ((he.trans e3) _ _ hR)) av0)) ev_c (rv_I ⟨by decide, by decide⟩)) (ev_len (K := K) (ev_var rfl) (sq_of hx3)) (rv_I hpos)) (rv_ixL (sq_of hx3) aj)) (by omega) (fun H4 e4 => ?_)
        have hx4 := e4 _ _ hx3
        have kp := (ExN.of (e3.trans e4)).trans (ExN.upd (ys := xs ++ [x]) hx4)
        refine s_ret (ev_var rfl) (fun H5 e5 => q l H5 (xs ++ [x]) (mss ++ [ms]) (fresh_back (Ex.refl H) hl1) ((Ex.mut ((he.trans e3).trans e4) hl1).trans e5) (e5 _ _ upd_same) (RwAt.ex e5 (LsA.snoc (LsA.imp (fun _ _ z => MtAt.keep kp z) hw) (hmx.keep kp))) ⟨by rw [List.length_append]; show _ + 1 ≤ 10; omega, fun m hm => ?_⟩)
        rcases List.mem_append.mp hm with hm | hm
        · have := hs3 m hm
          omega
        · rw [List.mem_singleton.mp hm]
          have := hs3 ms hms
          omega
      · exact s_ret (ev_var rfl) (fun H5 e5 => q l H5 xs mss hl1 ((he.trans e3).trans e5) ((e3.trans e5) _ _ hx) (RwAt.ex (e3.trans e5) hw) ⟨by omega, fun m hm => by have := hs3 m hm; omega⟩)
end
end Fs

set_option Elab.async false
set_option linter.all false
set_option maxRecDepth 100000
set_option maxHeartbeats 8000000
namespace Fs
open PySem L2 Evl FsE FsC FsR FsK
section
variable {P : Program} {w : World} {K : PySem.W.Frag} {mg : Str → Option Value} {base : Heap} {C : Addr}
/-- _law_rows(run) -/
def spLRows (C : Addr) : Sp := fun vs H Q _ => ∃ (a : Addr) (xs : List V), vs = [.ref a] ∧ RnAt C H a xs ∧ xs.length ≤ 1000 ∧ RetL xs H Q
abbrev nsLRows : List Str := ["_law_run", "_law_k"]
theorem scLRows : FnScope nsLRows ["_law_run"] (defScope (topS 19)) := ⟨rfl, rfl, rfl, by decide +kernel, rfl, by decide +kernel, by decide +kernel⟩
theorem el_lcRy {σ : L2.St} {H : Hp} {te : TE} {tn : TA} {j : Nat} {vs : List Nat} {n : Nat} {ys : List V} (h : EvA tn σ H [.int (n : Int)]) (hn : n ≤ 40000) (hw : ∀ x, wipe ((wipe σ vs).set j (some x)) vs = wipe σ vs) (hl : ys.length = n)
    (he : ∀ (i : Nat) (y : V) H1, Ex H H1 → ys[i]? = some y → Ev te ((wipe σ vs).set j (some (.int (i : Int)))) H1 y) : EvL (tLc (iRng1 tn) (gName j) tYes te vs) σ H ys := by
  have g := el_lcRm (te := te) (j := j) (vs := vs) (n := (n : Int)) (fun i => ys.getD i .non) h (by omega) hw (fun i H1 e hi => by
    have hy : ys[i]? = some (ys.getD i .non) := by rw [List.getD_eq_getElem?_getD, List.getElem?_eq_getElem (by omega)]; rfl
    exact he i _ H1 e hy)
  rw [Int.toNat_natCast, ← hl] at g
  have e := range_ys (xs := ys) (ys := ys) rfl
  rw [e] at g
  exact g
theorem ok_lrows {f g fl : Addr} {fd fdg fdl : FuncData} (F : Fun K "_law_rows" "_law_rows" (topS 19) f fd) (L : LawT K mg) (IX : IxM K C g) (FG : FnOk P w K mg base CX0 3 g fdg ["self", "at"] (spRunGet C)) (BG : Binds K fdg ["self", "at"] []) (LM : LenM K C fl) (FL : FnOk P w K mg base CX0 1 fl fdl ["self"] (spRunLen C)) (BL : Binds K fdl ["self"] []) :
    FnOk P w K mg base CX0 5 f fd ["_law_run"] (spLRows C) := by
  refine F.ok (k := 4) scLRows (fun vs H Q E h => ?_) (fun cdv A outer s H vs Q E hr h => ?_)
  · obtain ⟨a, xs, rfl, _⟩ := h
    rfl
  · obtain ⟨a, xs, rfl, hrn, hz, q⟩ := h
    refine ⟨_, pss_one (ps_ret (pe_lc (own := [("_law_k", 1)]) (g := gName 1) (tt := tYes) (te := tIxO C (spRunGet C) (fun _ => E0) (tVar 0) (tVar 1)) rfl scLRows.nd (pi_range1 rfl L.range (pa_cons (pe_callB (call_lenO (E := E0) LM FL (hr.mono (by decide)) BL (fun σ => at0 (E := fun _ => E0) σ)) (by rfl) L.len PySem.boot_len (pa_cons (pv 0) pa_nil)) pa_nil)) (blkOk_by (own := [("_law_k", 1)]) (N := nsLRows) (sc := defScope (topS 19)) (by decide +kernel))
        (fun _ _ _ _ _ => pg_name (i := 1) scLRows.nd rfl (Or.inl rfl)) (fun _ _ _ _ _ => pts_nil)
        (fun _ _ _ _ _ => pe_ixO (E := fun _ => E0) (pv 0) (pv 1) IX FG hr BG at0))), ?_⟩
    refine s_retL (el_lcRy (n := xs.length) (ys := xs) (ea_cons (fun H1 e1 Q1 q1 => ?_) ea_nil) (by omega) (fun _ => rfl) rfl (fun i y H1 e1 hy => ev_ixO (ev_var rfl) (ev_var rfl) (hrn.ex e1) hy)) q
    refine ⟨_, rfl, ?_⟩
    have r1 := hrn.ex e1
    have r1' := r1
    obtain ⟨dx, t, k1, k2⟩ := r1'
    exact ⟨a, dx, _, rfl, k1, a, xs, rfl, r1, fun H2 e2 => ⟨xs.length, rfl, by omega, q1 H2 e2⟩⟩
end
end Fs

set_option Elab.async false
set_option linter.all false
set_option maxRecDepth 100000
set_option maxHeartbeats 8000000
namespace Fs
open PySem L2 Evl FsE FsC FsR FsK
def iv (n : Nat) : V := .int (n : Int)
theorem inV_iv (n : Nat) (rs : List Nat) : inV (iv n) (rs.map iv) = decide (n ∈ rs) := by
  unfold inV
  rw [List.any_map]
  have e : ∀ m : Nat, (eqV (iv m) (iv n)) = decide (m = n) := fun m => by
    show ((m : Int) == (n : Int)) = _
    by_cases h : m = n
    · subst h
      simp
    · rw [decide_eq_false h]
      exact beq_eq_false_iff_ne.mpr (by omega)
  by_cases h : n ∈ rs
  · rw [decide_eq_true h]
    exact List.any_eq_true.mpr ⟨n, h, by show eqV (iv n) (iv n) = true; rw [e, decide_eq_true rfl]⟩
  · rw [decide_eq_false h]
    refine List.any_eq_false.mpr fun m hm => ?_
    show ¬ eqV (iv m) (iv n) = true
    rw [e]
    intro z
    exact h (of_decide_eq_true z ▸ hm)
theorem flat_iv (rs : List Nat) : (rs.map iv).all flatV = true := by
  rw [List.all_map]
  exact List.all_eq_true.mpr fun _ _ => rfl
theorem inV_int (m : Int) (ms : List Int) : inV (.int m) (ms.map V.int) = decide (m ∈ ms) := by
  unfold inV
  rw [List.any_map]
  have e : ∀ k : Int, (eqV (.int k) (.int m)) = decide (k = m) := fun k => by
    show (k == m) = _
    by_cases h : k = m
    · subst h
      simp
    · rw [decide_eq_false h]
      exact beq_eq_false_iff_ne.mpr h
  by_cases h : m ∈ ms
  · rw [decide_eq_true h]
    exact List.any_eq_true.mpr ⟨m, h, by show eqV (.int m) (.int m) = true; rw [e, decide_eq_true rfl]⟩
  · rw [decide_eq_false h]
    refine List.any_eq_false.mpr fun k hk => ?_
    show ¬ eqV (.int k) (.int m) = true
    rw [e]
    intro z
    exact h (of_decide_eq_true z ▸ hk)
theorem flat_int (ms : List Int) : (ms.map V.int).all flatV = true := by
  rw [List.all_map]
  exact List.all_eq_true.mpr fun _ _ => rfl
/-- the law's chains -/
def ChR (H : Hp) (v : V) (cs : List Nat) : Prop := ∃ l, v = .ref l ∧ H l = some (.lst (cs.map iv))
theorem ChR.ex {H H' : Hp} (e : Ex H H') {v : V} {cs : List Nat} (h : ChR H v cs) : ChR H' v cs := by
  obtain ⟨l, h1, h2⟩ := h
  exact ⟨l, h1, e _ _ h2⟩
/-- the same, apart from the list at a -/
def ChN (a : Addr) (H : Hp) (v : V) (cs : List Nat) : Prop := ∃ l, v = .ref l ∧ l ≠ a ∧ H l = some (.lst (cs.map iv))
theorem ChN.ex {a : Addr} {H H' : Hp} (e : Ex H H') {v : V} {cs : List Nat} (h : ChN a H v cs) : ChN a H' v cs := by
  obtain ⟨l, h1, h2, h3⟩ := h
  exact ⟨l, h1, h2, e _ _ h3⟩
theorem ChN.upd {a : Addr} {H : Hp} {xs : List V} {v : V} {cs : List Nat} (h : ChN a H v cs) : ChN a (upd H a (.lst xs)) v cs := by
  obtain ⟨l, h1, h2, h3⟩ := h
  exact ⟨l, h1, h2, by rw [upd_ne h2]; exact h3⟩
/-- what stands in the law's list of the k-th -/
def ChOk (f : Nat → List Int) (l : Nat) (cs : List Nat) : Prop := cs.length + 1 ≤ 2 ^ l ∧ ∀ i, i ∈ cs ↔ Dpd f i l
end Fs

set_option Elab.async false
set_option linter.all false
set_option maxRecDepth 100000
set_option maxHeartbeats 8000000
namespace Fs
open PySem L2 Evl FsE FsC FsR FsK
theorem LsA.pti {H : Hp} : ∀ {vs : List V} {ms : List Int} {i : Nat} {v y : V}, LsA PtAt H vs ms → vs[i]? = some v → (ms.map V.int)[i]? = some y → ∃ (q : Addr) (m : Int) (x z u : V), v = .ref q ∧ y = .int m ∧ H q = some (.tup [.int m, x, z, u]) := @LsA.pt H
theorem lsa_to {α : Type} {R R' : Hp → V → α → Prop} {H H' : Hp} (e : ∀ v x, R H v x → R' H' v x) : ∀ {vs : List V} {xs : List α}, LsA R H vs xs → LsA R' H' vs xs
  | [], [], _ => trivial
  | _ :: _, _ :: _, h => ⟨e _ _ h.1, lsa_to e h.2⟩
  | [], _ :: _, h => h.elim
  | _ :: _, [], h => h.elim
/-- what share a machine -/
def shB (a b : List Int) : Bool := a.any fun m => decide (m ∈ b)
theorem shB_iff {a b : List Int} : shB a b = true ↔ ∃ m, m ∈ a ∧ m ∈ b := by
  unfold shB
  rw [List.any_eq_true]
  exact ⟨fun ⟨m, h1, h2⟩ => ⟨m, h1, of_decide_eq_true h2⟩, fun ⟨m, h1, h2⟩ => ⟨m, h1, decide_eq_true h2⟩⟩
section
variable {P : Program} {w : World} {K : PySem.W.Frag} {mg : Str → Option Value} {base : Heap} {C : Addr}
/-- rows[i][1], a tuple of parts -/
theorem ev_parts {σ : L2.St} {H : Hp} {ta tb : TE} {l : Addr} {xs : List V} {i : Nat} {a p : Addr} {c : V} (ha : Ev ta σ H (.ref l)) (hb : Ev tb σ H (.int (i : Int))) (hl : H l = some (.lst xs)) (hx : xs[i]? = some (.ref a)) (h1 : H a = some (.tup [c, .ref p])) : Ev (tOp (rIxT K) (tOp (rIxL K) ta tb) (tC (.int 1))) σ H (.ref p) :=
  ev_op (y := .int 1) (ev_op (y := .int (i : Int)) ha hb (rv_ixL (sq_of hl) (atI_nat hx))) ev_c (rv_ixT (st_of h1) rfl)
/-- _law_chains(rows) -/
def spChains : Sp := fun vs H Q _ => ∃ (r : Addr) (xs : List V) (mss : List (List Int)), vs = [.ref r] ∧ H r = some (.lst xs) ∧ RwAt H xs mss ∧ MsOk mss ∧
  ∀ p H2 ys css, H p = none → Ex H H2 → H2 p = some (.lst ys) → LsA ChR H2 ys css → css.length = xs.length → (∀ l cs, css[l]? = some cs → ChOk (mssF mss) l cs) → Q (.ref p) H2
abbrev nsCha : List Str := ["_law_rows_here", "_law_found", "_law_later", "_law_reached", "_law_earlier", "_law_mine", "_law_part", "_law_one"]
theorem scCha : FnScope nsCha ["_law_rows_here"] (defScope (topS 20)) := ⟨rfl, rfl, rfl, by decide +kernel, rfl, by decide +kernel, by decide +kernel⟩
theorem mem_given {n : Nat} {f : Nat → Bool} {cs rs : List Nat} (hf : ∀ i c, cs[i]? = some c → f i = !decide (c ∈ rs)) (hn : n = cs.length) : ∃ ds : List Nat, given n f (fun i => (cs.map iv).getD i .non) = ds.map iv ∧ ds.length ≤ cs.length ∧ ∀ c, c ∈ ds ↔ c ∈ cs ∧ c ∉ rs := by
  subst hn
  refine ⟨(((List.range cs.length).filter f).map fun i => cs.getD i 0), ?_, ?_, fun c => ?_⟩
  · unfold given
    rw [List.map_map]
    refine List.map_congr_left fun i hi => ?_
    have hlt : i < cs.length := List.mem_range.mp (List.mem_filter.mp hi).1
    show (cs.map iv).getD i .non = iv (cs.getD i 0)
    rw [List.getD_eq_getElem?_getD, List.getD_eq_getElem?_getD, List.getElem?_map, List.getElem?_eq_getElem hlt]
    rfl
  · rw [List.length_map]
    have h := List.length_filter_le f (List.range cs.length)
    rwa [List.length_range] at h
  · rw [List.mem_map]
    constructor
    · rintro ⟨i, hi, rfl⟩
      obtain ⟨h1, h2⟩ := List.mem_filter.mp hi
      have hlt : i < cs.length := List.mem_range.mp h1
      have e : cs.getD i 0 = cs[i] := by rw [List.getD_eq_getElem?_getD, List.getElem?_eq_getElem hlt]; rfl
      rw [e]
      refine ⟨List.getElem_mem hlt, fun z => ?_⟩
      rw [hf i _ (List.getElem?_eq_getElem hlt), decide_eq_true z] at h2
      cases h2
    · rintro ⟨h1, h2⟩
      obtain ⟨i, hi⟩ := List.mem_iff_getElem?.mp h1
      have hlt := (List.getElem?_eq_some_iff.mp hi).1
      refine ⟨i, List.mem_filter.mpr ⟨List.mem_range.mpr hlt, by rw [hf i c hi, decide_eq_false h2]; rfl⟩, ?_⟩
      rw [List.getD_eq_getElem?_getD, hi]
      rfl
theorem s_ext {σ : L2.St} {H : Hp} {te ta : TE} {l : Addr} {xs zs : List V} {D : Ends} (hl : H l = some (.lst xs)) (ha : Ev ta σ H (.ref l)) (h : EvL te σ H zs) (hz : xs.length + zs.length ≤ 100000) (k : ∀ H1, Ex H H1 → D.nx σ (upd H1 l (.lst (xs ++ zs)))) :
    tDrop (tBM K "list" rExtend ta (tCons te tNil)) D σ H := ha H (Ex.refl H) _ fun H1 e1 =>
  ⟨Or.inl ⟨rfl, xs, sq_of (e1 l _ hl)⟩, h H1 e1 _ fun p H2 hp e2 h2 => ⟨l, p, xs, zs, rfl, rfl, e2 l _ (e1 l _ hl), h2, sz_of hz, k H2 (e1.trans e2)⟩⟩
theorem ok_chains {f : Addr} {fd : FuncData} (F : Fun K "_law_chains" "_law_chains" (topS 20) f fd) (L : LawT K mg) (hany : mg "any" = none) : FnOk P w K mg base CX0 1 f fd ["_law_rows_here"] spChains := by
  refine F.ok scCha (fun vs H Q E h => ?_) (fun cdv A outer s H vs Q E hr h => ?_)
  · obtain ⟨r, xs, mss, rfl, _⟩ := h
    rfl
  · obtain ⟨r, xs, mss, rfl, hR, hrw, hms, q⟩ := h
    refine ⟨_, pss_cons (ps_set (i := 1) scCha.nd rfl (Or.inl rfl) (pe_lst pa_nil))
      (pss_cons (ps_for PassesOwn.never rfl (pi_range1 rfl L.range (pa_cons (pe_callB call_len_seq (by rfl) L.len PySem.boot_len (pa_cons (pv 0) pa_nil)) pa_nil)) (pg_name (i := 2) scCha.nd rfl (Or.inl rfl))
        (pss_cons (ps_set (i := 3) scCha.nd rfl (Or.inr rfl) (pe_lst pa_nil))
        (pss_cons (ps_for PassesOwn.never rfl (pi_range1 rfl L.range (pa_cons (pv 2) pa_nil)) (pg_name (i := 4) scCha.nd rfl (Or.inl rfl))
          (pss_cons (ps_set (i := 5) scCha.nd rfl (Or.inr rfl) (pe_lc (own := [("_law_part", 6)]) (g := gName 6) (tt := tYes) (te := tOp (rIxT K) (tVar 6) (tC (.int 0))) rfl scCha.nd (pi_tup (pe_ix ix_tup (pe_ix ix_list (pv 0) (pv 2) (fun _ _ => rfl)) pe_int (fun _ _ => rfl))) (blkOk_by (own := [("_law_part", 6)]) (N := nsCha) (sc := defScope (topS 20)) (by decide +kernel))
              (fun _ _ _ _ _ => pg_name (i := 6) scCha.nd rfl (Or.inl rfl)) (fun _ _ _ _ _ => pts_nil) (fun _ _ _ _ _ => pe_ix ix_tup (pv 6) pe_int (fun _ _ => rfl))))
          (pss_one (ps_if (pt_val (pe_callB (cr_any rfl) (by rfl) hany (by decide +kernel) (pa_cons (pe_lc (own := [("_law_part", 6)]) (g := gName 6) (tt := tYes) (te := tOp (rIn K false) (tOp (rIxT K) (tVar 6) (tC (.int 0))) (tVar 5)) rfl scCha.nd (pi_tup (pe_ix ix_tup (pe_ix ix_list (pv 0) (pv 4) (fun _ _ => rfl)) pe_int (fun _ _ => rfl))) (blkOk_by (own := [("_law_part", 6)]) (N := nsCha) (sc := defScope (topS 20)) (by decide +kernel))
              (fun _ _ _ _ _ => pg_name (i := 6) scCha.nd rfl (Or.inl rfl)) (fun _ _ _ _ _ => pts_nil) (fun _ _ _ _ _ => pe_cmpR op_in_seq (pe_ix ix_tup (pv 6) pe_int (fun _ _ => rfl)) (pv 5) (by rfl))) pa_nil)))
            (pss_cons (ps_expr (pe_bm PySem.F.plainAttrs_list PySem.F.slot_list_append PySem.F.type_list_append mt_append (pv 3) (pa_cons (pv 4) pa_nil)))
            (pss_one (ps_expr (pe_bm PySem.F.plainAttrs_list PySem.F.slot_list_extend PySem.F.type_list_extend mt_extend (pv 3) (pa_cons (pe_lc (own := [("_law_one", 7)]) (g := gName 7) (tt := tTest (tOp (rIn K true) (tVar 7) (tVar 3))) (te := tVar 7) rfl scCha.nd (pi_list (pe_ix ix_list (pv 1) (pv 4) (fun _ _ => rfl))) (blkOk_by (own := [("_law_one", 7)]) (N := nsCha) (sc := defScope (topS 20)) (by decide +kernel))
              (fun _ _ _ _ _ => pg_name (i := 7) scCha.nd rfl (Or.inl rfl)) (fun _ _ _ _ _ => pts_one (pt_cmpR op_notIn_seq (pv 7) (pv 3) (by rfl))) (fun _ _ _ _ _ => pv 7)) pa_nil))))) pss_nil))))
        (pss_one (ps_expr (pe_bm PySem.F.plainAttrs_list PySem.F.slot_list_append PySem.F.type_list_append mt_append (pv 1) (pa_cons (pv 3) pa_nil)))))))
      (pss_one (ps_ret (pv 1)))), ?_⟩
    have hlen := LsA.length hrw
    have hten := hms.1
    refine q_asgL (xs := []) (el_lst ea_nil (by decide)) (fun fl H1 hf1 e1 h1 => ?_)
    refine q_forR1 (n := (xs.length : Int)) (ea_cons (ev_len (K := K) (ev_var rfl) (sq_of (e1 _ _ hR))) ea_nil) (by omega)
      (fun k σ' H' => ∃ (v2 v3 v4 v5 : Option V) (ys : List V) (css : List (List Nat)), k ≤ xs.length ∧ σ' = [some (.ref r), some (.ref fl), v2, v3, v4, v5, none, none] ∧ Ex H H' ∧ H' fl = some (.lst ys) ∧ LsA (ChN fl) H' ys css ∧ css.length = k ∧ ∀ l cs, css[l]? = some cs → ChOk (mssF mss) l cs)
      (fun H2 e2 => ⟨_, _, _, _, [], [], Nat.zero_le _, rfl, e1.trans e2, e2 _ _ h1, trivial, rfl, fun l cs h => by simp at h⟩) (fun k σ' H' hk ⟨v2, v3, v4, v5, ys, css, hkx, hσ, he, hy, hc, hck, hok⟩ => ?_) (fun σ' H' ⟨v2, v3, v4, v5, ys, css, hkx, hσ, he, hy, hc, hck, hok⟩ => ?_)
    · subst hσ
      have hk' : k < xs.length := by omega
      obtain ⟨vk, hvk, hmk, hzk⟩ := rw_get hrw hms hk'
      obtain ⟨ak, pk, ck, psk, rfl, hak, hpk, hppk⟩ := hmk
      refine q_asgL (xs := []) (el_lst ea_nil (by decide)) (fun rl H2 hl2 e2 h2 => ?_)
      refine q_forR1 (n := (k : Int)) (ea_cons (ev_var rfl) ea_nil) (by omega)
        (fun e σ' H3 => ∃ (v4 v5 : Option V) (rs : List Nat), e ≤ k ∧ σ' = [some (.ref r), some (.ref fl), some (.int (k : Int)), some (.ref rl), v4, v5, none, none] ∧ Ex H' H3 ∧ H3 rl = some (.lst (rs.map iv)) ∧ rs.length + 1 ≤ 2 ^ e ∧ ∀ i, i ∈ rs ↔ ∃ x, x < e ∧ (∃ m, m ∈ mssF mss x ∧ m ∈ mssF mss k) ∧ (i = x ∨ Dpd (mssF mss) i x))
        (fun H3 e3 => ⟨_, _, [], Nat.zero_le _, rfl, e2.trans e3, e3 _ _ h2, by show 0 + 1 ≤ 1; decide, fun i => ⟨(fun h => nomatch h), fun ⟨x, h, _⟩ => absurd h (by omega)⟩⟩) (fun e σ' H3 hek ⟨u4, u5, rs, hele, hσ, hE, hrl, hrs, hri⟩ => ?_) (fun σ' H3 ⟨u4, u5, rs, hele, hσ, hE, hrl, hrs, hri⟩ => ?_)
      · subst hσ
        have hek' : e < k := by omega
        obtain ⟨ve, hve, hme, hze⟩ := rw_get hrw hms (show e < xs.length by omega)
        obtain ⟨ae, pe, ce, pse, rfl, hae, hpe, hppe⟩ := hme
        obtain ⟨ye, cse, hye, hcse, hche⟩ := LsA.at_ hc (i := e) (by rw [LsA.length hc]; omega)
        obtain ⟨le, rfl, hlne, hle⟩ := hche
        obtain ⟨hcz, hci⟩ := hok e cse hcse
        have x3 := he.trans hE
        have p10 : 2 ^ e ≤ 2 ^ 10 := Nat.pow_le_pow_right (by decide) (by omega)
        refine q_asgL (xs := (mssF mss k).map V.int) (el_lcTy (K := K) (xs := psk) (ys := (mssF mss k).map V.int) (ev_parts (K := K) (ev_var rfl) (ev_var rfl) (x3 _ _ hR) hvk (x3 _ _ hak)) (st_of (x3 _ _ hpk)) (by have := LsA.length hppk; omega) (fun _ => rfl) (by rw [List.length_map]; exact (LsA.length hppk).symm) (fun i x y H4 e4 hx hy' => ?_)) (fun ml H4 hm4 e4 h4 => ?_)
        · obtain ⟨b, m, x1, x2, x3', rfl, rfl, hb⟩ := LsA.pt hppk hx hy'
          exact ev_op (y := .int 0) (ev_var rfl) ev_c (rv_ixT (st_of ((x3.trans e4) _ _ hb)) rfl)
        have x4 := x3.trans e4
        refine s_when (b := ((mssF mss e).map fun m => decide (m ∈ mssF mss k)).any id) (et_B (ev_anyL (el_lcTy (K := K) (xs := pse) (ys := ((mssF mss e).map fun m => decide (m ∈ mssF mss k)).map V.bl) (ev_parts (K := K) (ev_var rfl) (ev_var rfl) (x4 _ _ hR) hve (x4 _ _ hae)) (st_of (x4 _ _ hpe)) (by have := LsA.length hppe; omega) (fun _ => rfl) (by rw [List.length_map, List.length_map]; exact (LsA.length hppe).symm) (fun i x y H5 e5 hx hy' => ?_)))) (fun hb H5 e5 => ?_) (fun hb H5 e5 => ?_)
        · rw [List.map_map] at hy'
          have hmi : ∃ m, (mssF mss e)[i]? = some m ∧ y = .bl (decide (m ∈ mssF mss k)) := by
            rw [List.getElem?_map] at hy'
            cases em : (mssF mss e)[i]? with
            | none => rw [em] at hy'; cases hy'
            | some m => rw [em] at hy'; exact ⟨m, rfl, (Option.some.inj hy').symm⟩
          obtain ⟨m, hm, rfl⟩ := hmi
          obtain ⟨b, m', x1, x2, x3', rfl, hmm, hb⟩ := LsA.pt hppe hx (y := .int m) (by rw [List.getElem?_map, hm]; rfl)
          cases hmm
          refine ev_is (ev_op (x := .int m) (y := .ref ml) (ev_op (y := .int 0) (ev_var rfl) ev_c (rv_ixT (st_of ((x4.trans e5) _ _ hb)) rfl)) (ev_var rfl) (rv_isL (sq_of (e5 _ _ h4)) rfl (flat_int _))) ?_
          rw [inV_int]
        · have hsh : ∃ m, m ∈ mssF mss e ∧ m ∈ mssF mss k := by
            rw [List.any_map] at hb
            exact shB_iff.mp hb
          have hr5 := (e4.trans e5) _ _ hrl
          refine q_app (xs := rs.map iv) (v := iv e) hr5 (ev_var rfl) (ev_var rfl) (by rw [List.length_map]; omega) (fun H6 e6 => ?_)
          have hr6 := e6 _ _ hr5
          have er : rs.map iv ++ [iv e] = (rs ++ [e]).map iv := by rw [List.map_append]; rfl
          rw [er]
          have y6 : Ex H' (upd H6 rl (.lst ((rs ++ [e]).map iv))) := Ex.mut ((hE.trans e4).trans (e5.trans e6)) hl2
          have hle6 := y6 _ _ hle
          have hlz : (cse.map iv).length ≤ 40000 := by rw [List.length_map]; omega
          obtain ⟨ds, hds, hdz, hdi⟩ := mem_given (n := (cse.map iv).length) (f := fun i => !decide (cse.getD i 0 ∈ rs ++ [e])) (cs := cse) (rs := rs ++ [e]) (fun i c hc => by rw [List.getD_eq_getElem?_getD, hc]; rfl) (List.length_map iv)
          refine s_ext (xs := (rs ++ [e]).map iv) (zs := ds.map iv) upd_same (ev_var rfl) ?_ (by rw [List.length_map, List.length_map, List.length_append, List.length_singleton]; omega) (fun H7 e7 => ?_)
          · rw [← hds]
            refine el_lcL (K := K) (a := le) (xs := cse.map iv) (fun i => !decide (cse.getD i 0 ∈ rs ++ [e])) (fun i => (cse.map iv).getD i .non) (ev_op (y := .int (e : Int)) (ev_var rfl) (ev_var rfl) (rv_ixL (sq_of (y6 _ _ hy)) (atI_nat hye))) (sq_of hle6) hlz (fun _ => rfl) (fun i x H7 e7 hx => ?_) (fun i x H7 e7 hx _ => ?_)
            · have hci' : ∃ c, cse[i]? = some c ∧ x = iv c := by
                rw [List.getElem?_map] at hx
                cases ec : cse[i]? with
                | none => rw [ec] at hx; cases hx
                | some c => rw [ec] at hx; exact ⟨c, rfl, (Option.some.inj hx).symm⟩
              obtain ⟨c, hc', rfl⟩ := hci'
              refine et_is (et_test (ev_op (x := iv c) (y := .ref rl) (ev_var rfl) (ev_var rfl) (rv_niL (xs := (rs ++ [e]).map iv) (sq_of (e7 _ _ upd_same)) rfl (flat_iv _)))) ?_
              rw [inV_iv, List.getD_eq_getElem?_getD, hc']
              rfl
            · have : (cse.map iv).getD i .non = x := by rw [List.getD_eq_getElem?_getD, hx]; rfl
              rw [this]
              exact ev_var rfl
          · have er2 : (rs ++ [e]).map iv ++ ds.map iv = (rs ++ [e] ++ ds).map iv := (List.map_append (f := iv) (l₁ := rs ++ [e]) (l₂ := ds)).symm
            rw [er2]
            refine ⟨_, _, rs ++ [e] ++ ds, by omega, rfl, Ex.mut (y6.trans e7) hl2, upd_same, ?_, fun i => ?_⟩
            · rw [List.length_append, List.length_append, List.length_singleton, Nat.pow_succ]
              omega
            · rw [List.mem_append, List.mem_append, List.mem_singleton, hri i, hdi i, hci i]
              constructor
              · rintro ((⟨x, h1, h2, h3⟩ | rfl) | ⟨h3, _⟩)
                · exact ⟨x, by omega, h2, h3⟩
                · exact ⟨i, by omega, hsh, .inl rfl⟩
                · exact ⟨e, by omega, hsh, .inr h3⟩
              · rintro ⟨x, h1, h2, h3⟩
                by_cases ex : x = e
                · subst ex
                  rcases h3 with rfl | h3
                  · exact .inl (.inr rfl)
                  · by_cases hin : i ∈ rs ++ [x]
                    · rcases List.mem_append.mp hin with hin | hin
                      · exact .inl (.inl ((hri i).mp hin))
                      · exact .inl (.inr (List.mem_singleton.mp hin))
                    · exact .inr ⟨h3, hin⟩
                · exact .inl (.inl ⟨x, by omega, h2, h3⟩)
        · have hns : ¬ ∃ m, m ∈ mssF mss e ∧ m ∈ mssF mss k := fun z => by
            have := shB_iff.mpr z
            rw [List.any_map] at hb
            unfold shB at this
            have hb' : (List.any (mssF mss e) fun m => decide (m ∈ mssF mss k)) = false := hb
            rw [this] at hb'
            cases hb'
          refine ⟨_, _, rs, by omega, rfl, (hE.trans e4).trans e5, (e4.trans e5) _ _ hrl, by rw [Nat.pow_succ]; omega, fun i => ?_⟩
          rw [hri i]
          constructor
          · rintro ⟨x, h1, h2, h3⟩
            exact ⟨x, by omega, h2, h3⟩
          · rintro ⟨x, h1, h2, h3⟩
            by_cases ex : x = e
            · subst ex
              exact absurd h2 hns
            · exact ⟨x, by omega, h2, h3⟩
      · subst hσ
        rw [Int.toNat_natCast] at hele hrs hri
        have hy3 := hE _ _ hy
        have nrf : rl ≠ fl := fun z => by
          subst z
          rw [hy] at hl2
          cases hl2
        refine s_app (xs := ys) (v := .ref rl) hy3 (ev_var rfl) (ev_var rfl) (by have := LsA.length hc; omega) (fun H4 e4 => ?_)
        refine ⟨_, _, _, _, ys ++ [.ref rl], css ++ [rs], by omega, rfl, Ex.mut ((he.trans hE).trans e4) hf1, upd_same, LsA.snoc (LsA.imp (fun _ _ z => ChN.upd (ChN.ex (hE.trans e4) z)) hc) ⟨rl, rfl, nrf, by rw [upd_ne nrf]; exact e4 _ _ hrl⟩, by rw [List.length_append, hck]; rfl, fun l cs hlc => ?_⟩
        by_cases hlk : l < css.length
        · rw [List.getElem?_append_left hlk] at hlc
          exact hok l cs hlc
        · rw [List.getElem?_append_right (by omega)] at hlc
          have hl0 : l - css.length = 0 := by
            by_cases z : l - css.length = 0
            · exact z
            · rw [List.getElem?_eq_none (by rw [List.length_singleton]; omega)] at hlc
              cases hlc
          rw [hl0] at hlc
          cases hlc
          have : l = k := by omega
          subst this
          exact ⟨hrs, fun i => by rw [hri i, ← dpd_iff]⟩
    · subst hσ
      exact s_ret (ev_var rfl) (fun H4 e4 => q fl H4 ys css hf1 (he.trans e4) (e4 _ _ hy) (lsa_to (R' := ChR) (H' := H4) (fun _ _ ⟨l, z1, _, z3⟩ => ⟨l, z1, e4 _ _ z3⟩) hc) (by rw [hck]; simp) hok)
end
end Fs

set_option Elab.async false
set_option linter.all false
set_option maxRecDepth 100000
set_option maxHeartbeats 8000000
namespace Fs
open PySem L2 Evl FsE FsC FsR FsK
def spLaw (K : PySem.W.Frag) : Sp := fun vs H Q _ => ∃ (a : Addr) (ns : List Int), vs = [.ref a] ∧ SqL K H a (ns.map V.int) ∧ RetV (.bl true) H Q
section
variable {P : Program} {w : World} {K : PySem.W.Frag} {mg : Str → Option Value} {base : Heap} {C : Addr}
/-- a list of the same objects -/
theorem rv_eqSame {H : Hp} {a b : Addr} {xs : List V} {mss : List (List Int)} (ha : H a = some (.lst xs)) (hb : H b = some (.lst xs)) (hr : RwAt H xs mss) : RV (rEqV K) (.ref a) (.ref b) H (.bl true) := fun H1 e _ q => by
  refine ⟨1, by decide, .inl ⟨a, b, xs, xs, rfl, rfl, sq_of (e _ _ ha), sq_of (e _ _ hb), ?_⟩, q H1 (Ex.refl H1)⟩
  have : ∀ {vs : List V} {ms : List (List Int)}, LsA MtAt H vs ms → Paired (EqV K H1 1) vs vs := by
    intro vs
    induction vs with
    | nil => intro ms _; exact .nil
    | cons v vs ih =>
      intro ms h
      cases ms with
      | nil => exact h.elim
      | cons m ms =>
        obtain ⟨⟨a, _, _, _, rfl, _⟩, h2⟩ := h
        exact .cons (.inr (.inl ⟨a, rfl, rfl⟩)) (ih h2)
  exact this hr
theorem rn_fresh {t : Addr} : List.lookup ("depends" : Str) [("rows", V.ref t)] = none := by
  rw [List.lookup_cons, show (("depends" : Str) == "rows") = false from by decide +kernel]
  rfl
abbrev nsLaw : List Str := ["_law_script", "_law_rows_here", "_law_run", "_law_chains_here", "_law_later", "_law_earlier", "_law_told"]
theorem scLaw : FnScope nsLaw ["_law_script"] (defScope (topS 21)) := ⟨rfl, rfl, rfl, by decide +kernel, rfl, by decide +kernel, by decide +kernel⟩
theorem ok_law {f fdp : Addr} {fd fdd : FuncData} (F : Fun K "law" "law" (topS 21) f fd) (L : LawT K mg) (T : RunT K mg) (R : RunC K mg C) (GC : CalX P w K mg base CX0 1 "_law_cell_at" (spCellAt K)) (GR : CalX P w K mg base CX0 2 "_law_row" spRow) (GM : CalX P w K mg base CX0 1 "_law_meetings" spMeetings) (MR : MakX P w K mg base CX0 1 "Run" C (spRunInit K C))
    (GH : CalX P w K mg base CX0 1 "_law_chains" spChains) (GL : CalX P w K mg base CX0 5 "_law_rows" (spLRows C)) (DM : Meth K C "depends" fdp) (FD : FnOk P w K mg base CX0 5 fdp fdd ["self", "j", "i"] (spDepends C)) (BD : Binds K fdd ["self", "j", "i"] []) :
    FnOk P w K mg base CX0 6 f fd ["_law_script"] (spLaw K) := by
  refine F.ok (k := 5) scLaw (fun vs H Q E h => ?_) (fun cdv A outer s H vs Q E hr h => ?_)
  · obtain ⟨a, ns, rfl, _⟩ := h
    rfl
  · obtain ⟨a, ns, rfl, hS, q⟩ := h
    refine ⟨_, pss_cons (ps_set (i := 1) scLaw.nd rfl (Or.inl rfl) (pe_cx (E := fun _ => E0) GM hr (by omega) (by rfl) at0 (pa_cons (pe_cx (E := fun _ => E0) GR hr (by omega) (by rfl) at0 (pa_cons (pe_cx (E := fun _ => E0) GC hr (by omega) (by rfl) at0 (pa_cons (pv 0) (pa_cons pe_int pa_nil))) (pa_cons pe_int pa_nil))) pa_nil)))
      (pss_cons (ps_set (i := 2) scLaw.nd rfl (Or.inl rfl) (pe_mx (E := E0) MR hr (by omega) (by rfl) pass0 (pa_cons (pv 1) pa_nil)))
      (pss_cons (ps_set (i := 3) scLaw.nd rfl (Or.inl rfl) (pe_cx (E := fun _ => E0) GH hr (by omega) (by rfl) at0 (pa_cons (pv 1) pa_nil)))
      (pss_cons (ps_for PassesOwn.never rfl (pi_range1 rfl L.range (pa_cons (pe_callB call_len_seq (by rfl) L.len PySem.boot_len (pa_cons (pv 1) pa_nil)) pa_nil)) (pg_name (i := 4) scLaw.nd rfl (Or.inl rfl))
        (pss_one (ps_for PassesOwn.never rfl (pi_range1 rfl L.range (pa_cons (pv 4) pa_nil)) (pg_name (i := 5) scLaw.nd rfl (Or.inl rfl))
          (pss_cons (ps_set (i := 6) scLaw.nd rfl (Or.inl rfl) (pe_meth (pv 2) R.cl DM FD (hr.mono (by omega)) BD .nil pass0 (pa_cons (pv 4) (pa_cons (pv 5) pa_nil))))
          (pss_one (ps_if (PW.pt (pw_or (pt_not (pt_val (pe_callB (id := "isinstance") (r := rIsi K) call_isi (by rfl) T.isinst (by decide +kernel) (pa_cons (pv 6) (pa_cons (pe_bltn (v := .ty "bool") (by rfl) T.bool (by decide +kernel) rfl) pa_nil)))))
            (pw_or1 (pt_cmpR op_ne (pv 6) (pe_cmpR op_in_seq (pv 5) (pe_ix ix_list (pv 3) (pv 4) (fun _ _ => rfl)) (by rfl)) (nomark _))))) (pss_one (ps_ret pe_bl)) pss_nil)))))) 
      (pss_one (ps_ret (pe_cmpR (op_eqV hr.units) (pe_cx (E := fun _ => E0) GL hr (by omega) (by rfl) at0 (pa_cons (pv 2) pa_nil)) (pv 1) (nomark _))))))), ?_⟩
    refine ⟨_, rfl, a, ns, 0, rfl, hS, fun c H1 e1 => ⟨c, 20, rfl, by decide, fun row hrow hok rl H2 hrl e2 h2 => ⟨rl, row, rfl, h2, hrow, hok, fun p H3 xs mss hp e3 h3 hrw hms => ?_⟩⟩⟩
    have x3 := (e1.trans e2).trans e3
    refine ⟨_, rfl, fun x dx hx hdx hne => ?_⟩
    have x0 : Ex H3 (upd (upd H3 dx (.own x)) x (.ins C dx [])) := by
      intro b o hb
      rw [upd_ne (ne_of_none hb hx), upd_ne (ne_of_none hb hdx)]
      exact hb
    refine ⟨x, dx, p, xs, H3, rfl, upd_same, hx, x0, sq_of h3, fun H4 e4 hrn => ⟨rfl, ?_⟩⟩
    have hl4 := e4 _ _ h3
    have hw4 := RwAt.ex e4 hrw
    refine ⟨_, rfl, p, xs, mss, rfl, hl4, hw4, hms, fun cl H5 ys css hcl e5 h5 hch hcn hco => ?_⟩
    have hl5 := e5 _ _ hl4
    have hw5 := RwAt.ex e5 hw4
    have hrn5 := hrn.ex e5
    have x5 := (x3.trans e4).trans e5
    have hten := hms.1
    have hlen := LsA.length hw5
    have hcy := LsA.length hch
    refine q_forR1 (n := (xs.length : Int)) (ea_cons (ev_len (K := K) (ev_var rfl) (sq_of hl5)) ea_nil) (by omega)
      (fun k σ' H' => ∃ (v4 v5 v6 : Option V), σ' = [some (.ref a), some (.ref p), some (.ref x), some (.ref cl), v4, v5, v6] ∧ Ex H5 H')
      (fun H6 e6 => ⟨_, _, _, rfl, e6⟩) (fun k σ' H' hk ⟨v4, v5, v6, hσ, he⟩ => ?_) (fun σ' H' ⟨v4, v5, v6, hσ, he⟩ => ?_)
    · subst hσ
      refine s_forR1 (n := (k : Int)) (ea_cons (ev_var rfl) ea_nil) (by omega)
        (fun e σ' H'' => ∃ (v5 v6 : Option V), σ' = [some (.ref a), some (.ref p), some (.ref x), some (.ref cl), some (.int (k : Int)), v5, v6] ∧ Ex H5 H'')
        (fun H6 e6 => ⟨_, _, rfl, he.trans e6⟩) (fun e σ' H'' hek ⟨u5, u6, hσ, hE⟩ => ?_) (fun σ' H'' ⟨u5, u6, hσ, hE⟩ => ⟨_, _, _, hσ, hE⟩)
      subst hσ
      have r6 := hrn5.ex hE
      obtain ⟨dx6, t6, k1, k2⟩ := r6
      refine ⟨_, rfl, x, dx6, _, rfl, k1, rn_fresh, _, rfl, _, rfl, x, xs, mss, e, k, rfl, ⟨dx6, t6, k1, k2⟩, RwAt.ex hE hw5, hms, by omega, by omega, fun b hb H7 e7 => ?_⟩
      have y7 := hE.trans e7
      obtain ⟨ye, cs, hye, hcs, hche⟩ := LsA.at_ hch (i := k) (by omega)
      obtain ⟨le, rfl, hle⟩ := hche
      have hbb : b = decide (e ∈ cs) := by
        have := (hco k cs hcs).2 e
        by_cases z : e ∈ cs
        · rw [decide_eq_true z]
          exact hb.mpr (this.mp z)
        · rw [decide_eq_false z]
          cases b with
          | false => rfl
          | true => exact absurd (this.mpr (hb.mp rfl)) z
      refine s_when (σ := [some (.ref a), some (.ref p), some (.ref x), some (.ref cl), some (.int (k : Int)), some (.int (e : Int)), some (.bl b)]) (b := false) (et_or (a := false) (b := false) (et_is (et_not (et_B (ev_cb (ea_cons (ev_var rfl) (ea_cons ev_c ea_nil)) (rc_isi (b := true) (fun H8 _ => .base (.bl b)) (by decide +kernel))))) rfl)
        (fun _ => et_is (et_test (ev_op (x := .bl b) (y := .bl b) (ev_var rfl) (ev_is (ev_op (x := iv e) (y := .ref le) (ev_var rfl) (ev_op (y := .int (k : Int)) (ev_var rfl) (ev_var rfl) (rv_ixL (sq_of (y7 _ _ h5)) (atI_nat hye))) (rv_isL (xs := cs.map iv) (sq_of (y7 _ _ hle)) rfl (flat_iv cs))) (by rw [inV_iv, hbb])) (rv_ne rfl))) (by rw [decide_eq_true rfl]; rfl))) (fun hb => nomatch hb) (fun _ H8 e8 => ⟨_, _, rfl, y7.trans e8⟩)
    · subst hσ
      have hl6 := he _ _ hl5
      exact s_ret (v := .bl true) (ev_opL1 (xs := xs) (el_cx (ea_cons (ev_var rfl) ea_nil) (fun H7 e7 Q7 q7 E7 => ⟨x, xs, rfl, (hrn5.ex he).ex e7, by omega, fun r H8 hr8 e8 h8 => q7 r H8 hr8 e8 h8⟩)) (fun H7 e7 => ev_var rfl) (fun r H7 hr7 e7 => rv_eqSame hr7 (e7 _ _ hl6) (RwAt.ex (he.trans e7) hw5))) (fun H7 e7 => q H7 ((x5.trans he).trans e7))
end
end Fs

set_option Elab.async false
set_option linter.all false
set_option maxRecDepth 100000
set_option maxHeartbeats 8000000
namespace Fs
open PySem PySem.Spec PyProof.Rows L2 Evl FsE FsC FsR FsK
theorem all_mk {P : Program} {w : World} {K : PySem.W.Frag} {h : Heap} {mg : Str → Option Value} {fa : Addr} (X : K.In h) (G : h.Ns mainGlobals mg) (hfa : mg "law" = some (.ref fa))
    {fisint : Addr} {odisint anisint : Option Addr} {slisint : Array (Option Value)} {ocisint kVisint dcisint pmisint cdisint ctisint : Value}
    {findex : Addr} {odindex anindex : Option Addr} {slindex : Array (Option Value)} {ocindex kVindex dcindex pmindex cdindex ctindex : Value}
    {fmach : Addr} {odmach anmach : Option Addr} {slmach : Array (Option Value)} {ocmach kVmach dcmach pmmach cdmach ctmach : Value}
    {ftakes : Addr} {odtakes antakes : Option Addr} {sltakes : Array (Option Value)} {octakes kVtakes dctakes pmtakes cdtakes cttakes : Value}
    {fcellat : Addr} {odcellat ancellat : Option Addr} {slcellat : Array (Option Value)} {occellat kVcellat dccellat pmcellat cdcellat ctcellat : Value}
    {fmixed : Addr} {odmixed anmixed : Option Addr} {slmixed : Array (Option Value)} {ocmixed kVmixed dcmixed pmmixed cdmixed ctmixed : Value}
    {frow : Addr} {odrow anrow : Option Addr} {slrow : Array (Option Value)} {ocrow kVrow dcrow pmrow cdrow ctrow : Value}
    {fmee : Addr} {odmee anmee : Option Addr} {slmee : Array (Option Value)} {ocmee kVmee dcmee pmmee cdmee ctmee : Value}
    {flrows : Addr} {odlrows anlrows : Option Addr} {sllrows : Array (Option Value)} {oclrows kVlrows dclrows pmlrows cdlrows ctlrows : Value}
    {fcha : Addr} {odcha ancha : Option Addr} {slcha : Array (Option Value)} {occha kVcha dccha pmcha cdcha ctcha : Value}
    {flaw : Addr} {odlaw anlaw : Option Addr} {sllaw : Array (Option Value)} {oclaw kVlaw dclaw pmlaw cdlaw ctlaw : Value}
    {C : Addr}
    {finit : Addr} {odinit aninit : Option Addr} {slinit : Array (Option Value)} {ocinit kVinit dcinit pminit cdinit ctinit : Value}
    {flen : Addr} {odlen anlen : Option Addr} {sllen : Array (Option Value)} {oclen kVlen dclen pmlen cdlen ctlen : Value}
    {fget : Addr} {odget anget : Option Addr} {slget : Array (Option Value)} {ocget kVget dcget pmget cdget ctget : Value}
    {fdep : Addr} {oddep andep : Option Addr} {sldep : Array (Option Value)} {ocdep kVdep dcdep pmdep cddep ctdep : Value}
    (aisint : PySem.W.nsIn K mainGlobals "is_int" = some (some (.ref fisint)))
    (lisint : K.lookup fisint = some ⟨ocisint, odisint, .func (PySem.W.fnOf "is_int" "is_int" (defArgs (topS 2)) (defBody (topS 2)) (defScope (topS 2)) .none kVisint dcisint pmisint anisint cdisint ctisint), slisint⟩)
    (cisint : PySem.W.codeIn K cdisint "is_int" = true)
    (kisint : PySem.W.keepIn K (.ref fisint) = true)
    (aindex : PySem.W.nsIn K mainGlobals "is_index" = some (some (.ref findex)))
    (lindex : K.lookup findex = some ⟨ocindex, odindex, .func (PySem.W.fnOf "is_index" "is_index" (defArgs (topS 3)) (defBody (topS 3)) (defScope (topS 3)) .none kVindex dcindex pmindex anindex cdindex ctindex), slindex⟩)
    (cindex : PySem.W.codeIn K cdindex "is_index" = true)
    (kindex : PySem.W.keepIn K (.ref findex) = true)
    (amach : PySem.W.nsIn K mainGlobals "machines_in" = some (some (.ref fmach)))
    (lmach : K.lookup fmach = some ⟨ocmach, odmach, .func (PySem.W.fnOf "machines_in" "machines_in" (defArgs (topS 8)) (defBody (topS 8)) (defScope (topS 8)) .none kVmach dcmach pmmach anmach cdmach ctmach), slmach⟩)
    (cmach : PySem.W.codeIn K cdmach "machines_in" = true)
    (kmach : PySem.W.keepIn K (.ref fmach) = true)
    (atakes : PySem.W.nsIn K mainGlobals "takes_any" = some (some (.ref ftakes)))
    (ltakes : K.lookup ftakes = some ⟨octakes, odtakes, .func (PySem.W.fnOf "takes_any" "takes_any" (defArgs (topS 11)) (defBody (topS 11)) (defScope (topS 11)) .none kVtakes dctakes pmtakes antakes cdtakes cttakes), sltakes⟩)
    (ctakes : PySem.W.codeIn K cdtakes "takes_any" = true)
    (ktakes : PySem.W.keepIn K (.ref ftakes) = true)
    (acellat : PySem.W.nsIn K mainGlobals "_law_cell_at" = some (some (.ref fcellat)))
    (lcellat : K.lookup fcellat = some ⟨occellat, odcellat, .func (PySem.W.fnOf "_law_cell_at" "_law_cell_at" (defArgs (topS 15)) (defBody (topS 15)) (defScope (topS 15)) .none kVcellat dccellat pmcellat ancellat cdcellat ctcellat), slcellat⟩)
    (ccellat : PySem.W.codeIn K cdcellat "_law_cell_at" = true)
    (kcellat : PySem.W.keepIn K (.ref fcellat) = true)
    (amixed : PySem.W.nsIn K mainGlobals "_law_mixed" = some (some (.ref fmixed)))
    (lmixed : K.lookup fmixed = some ⟨ocmixed, odmixed, .func (PySem.W.fnOf "_law_mixed" "_law_mixed" (defArgs (topS 16)) (defBody (topS 16)) (defScope (topS 16)) .none kVmixed dcmixed pmmixed anmixed cdmixed ctmixed), slmixed⟩)
    (cmixed : PySem.W.codeIn K cdmixed "_law_mixed" = true)
    (kmixed : PySem.W.keepIn K (.ref fmixed) = true)
    (arow : PySem.W.nsIn K mainGlobals "_law_row" = some (some (.ref frow)))
    (lrow : K.lookup frow = some ⟨ocrow, odrow, .func (PySem.W.fnOf "_law_row" "_law_row" (defArgs (topS 17)) (defBody (topS 17)) (defScope (topS 17)) .none kVrow dcrow pmrow anrow cdrow ctrow), slrow⟩)
    (crow : PySem.W.codeIn K cdrow "_law_row" = true)
    (krow : PySem.W.keepIn K (.ref frow) = true)
    (amee : PySem.W.nsIn K mainGlobals "_law_meetings" = some (some (.ref fmee)))
    (lmee : K.lookup fmee = some ⟨ocmee, odmee, .func (PySem.W.fnOf "_law_meetings" "_law_meetings" (defArgs (topS 18)) (defBody (topS 18)) (defScope (topS 18)) .none kVmee dcmee pmmee anmee cdmee ctmee), slmee⟩)
    (cmee : PySem.W.codeIn K cdmee "_law_meetings" = true)
    (kmee : PySem.W.keepIn K (.ref fmee) = true)
    (alrows : PySem.W.nsIn K mainGlobals "_law_rows" = some (some (.ref flrows)))
    (llrows : K.lookup flrows = some ⟨oclrows, odlrows, .func (PySem.W.fnOf "_law_rows" "_law_rows" (defArgs (topS 19)) (defBody (topS 19)) (defScope (topS 19)) .none kVlrows dclrows pmlrows anlrows cdlrows ctlrows), sllrows⟩)
    (clrows : PySem.W.codeIn K cdlrows "_law_rows" = true)
    (klrows : PySem.W.keepIn K (.ref flrows) = true)
    (acha : PySem.W.nsIn K mainGlobals "_law_chains" = some (some (.ref fcha)))
    (lcha : K.lookup fcha = some ⟨occha, odcha, .func (PySem.W.fnOf "_law_chains" "_law_chains" (defArgs (topS 20)) (defBody (topS 20)) (defScope (topS 20)) .none kVcha dccha pmcha ancha cdcha ctcha), slcha⟩)
    (ccha : PySem.W.codeIn K cdcha "_law_chains" = true)
    (kcha : PySem.W.keepIn K (.ref fcha) = true)
    (alaw : PySem.W.nsIn K mainGlobals "law" = some (some (.ref flaw)))
    (llaw : K.lookup flaw = some ⟨oclaw, odlaw, .func (PySem.W.fnOf "law" "law" (defArgs (topS 21)) (defBody (topS 21)) (defScope (topS 21)) .none kVlaw dclaw pmlaw anlaw cdlaw ctlaw), sllaw⟩)
    (claw : PySem.W.codeIn K cdlaw "law" = true)
    (klaw : PySem.W.keepIn K (.ref flaw) = true)
    (aC : PySem.W.nsIn K mainGlobals "Run" = some (some (.ref C)))
    (pg : PySem.W.plainGet K C Str.empty = true)
    (hd : PySem.W.hasDictIn K C = true)
    (po : PySem.W.plainOver K C = true)
    (sa : PySem.W.findIn K (.ref C) "__setattr__" = some (some (.builtin "object.__setattr__")))
    (nR : PySem.W.findIn K (.ref C) "rows" = some none)
    (mk : PySem.W.makesIn K C = true)
    (kc : PySem.W.keepIn K (.ref C) = true)
    (minit : PySem.W.findIn K (.ref C) "__init__" = some (some (.ref finit)))
    (iinit : PySem.W.isFn K (.ref finit) = true)
    (linit : K.lookup finit = some ⟨ocinit, odinit, .func (PySem.W.fnOf "__init__" "Run.__init__" (defArgs (inClass (topS 10) 0)) (defBody (inClass (topS 10) 0)) (defScope (inClass (topS 10) 0)) .none kVinit dcinit pminit aninit cdinit ctinit), slinit⟩)
    (cinit : PySem.W.codeIn K cdinit "Run.__init__" = true)
    (kinit : PySem.W.keepIn K (.ref finit) = true)
    (mlen : PySem.W.findIn K (.ref C) "__len__" = some (some (.ref flen)))
    (ilen : PySem.W.isFn K (.ref flen) = true)
    (llen : K.lookup flen = some ⟨oclen, odlen, .func (PySem.W.fnOf "__len__" "Run.__len__" (defArgs (inClass (topS 10) 2)) (defBody (inClass (topS 10) 2)) (defScope (inClass (topS 10) 2)) .none kVlen dclen pmlen anlen cdlen ctlen), sllen⟩)
    (clen : PySem.W.codeIn K cdlen "Run.__len__" = true)
    (klen : PySem.W.keepIn K (.ref flen) = true)
    (mget : PySem.W.findIn K (.ref C) "__getitem__" = some (some (.ref fget)))
    (iget : PySem.W.isFn K (.ref fget) = true)
    (lget : K.lookup fget = some ⟨ocget, odget, .func (PySem.W.fnOf "__getitem__" "Run.__getitem__" (defArgs (inClass (topS 10) 4)) (defBody (inClass (topS 10) 4)) (defScope (inClass (topS 10) 4)) .none kVget dcget pmget anget cdget ctget), slget⟩)
    (cget : PySem.W.codeIn K cdget "Run.__getitem__" = true)
    (kget : PySem.W.keepIn K (.ref fget) = true)
    (mdep : PySem.W.findIn K (.ref C) "depends" = some (some (.ref fdep)))
    (idep : PySem.W.isFn K (.ref fdep) = true)
    (ldep : K.lookup fdep = some ⟨ocdep, oddep, .func (PySem.W.fnOf "depends" "Run.depends" (defArgs (inClass (topS 10) 9)) (defBody (inClass (topS 10) 9)) (defScope (inClass (topS 10) 9)) .none kVdep dcdep pmdep andep cddep ctdep), sldep⟩)
    (cdep : PySem.W.codeIn K cddep "Run.depends" = true)
    (kdep : PySem.W.keepIn K (.ref fdep) = true)
    (fi : PySem.W.fnIn K fget = true)
    (z_isinstance : PySem.W.nsIn K mainGlobals "isinstance" = some (none))
    (z_int : PySem.W.nsIn K mainGlobals "int" = some (none))
    (z_bool : PySem.W.nsIn K mainGlobals "bool" = some (none))
    (z_len : PySem.W.nsIn K mainGlobals "len" = some (none))
    (z_any : PySem.W.nsIn K mainGlobals "any" = some (none))
    (z_tuple : PySem.W.nsIn K mainGlobals "tuple" = some (none))
    (z_abs : PySem.W.nsIn K mainGlobals "abs" = some (none))
    (z_range : PySem.W.nsIn K mainGlobals "range" = some (none)) :
    ∃ fd : FuncData, (∀ (s : Shared) (v : Value), BindsTo s fd ⟨[v], []⟩ [("_law_script", v)]) ∧ ∀ base : Heap, K.In base → base.Ns mainGlobals mg → FnOk P w K mg base CX0 6 fa fd ["_law_script"] (spLaw K) := by
  have e := hfa.symm.trans (PySem.W.mg_of X G alaw)
  cases e
  have Fisint := fun_mk (st := (topS 2)) lisint cisint kisint
  have Bisint := Fisint.binds (ps := ["value"]) fun _ _ _ _ _ _ us hl => match us, hl with | [_], _ => rfl
  have Findex := fun_mk (st := (topS 3)) lindex cindex kindex
  have Bindex := Findex.binds (ps := ["at", "count"]) fun _ _ _ _ _ _ us hl => match us, hl with | [_, _], _ => rfl
  have Fmach := fun_mk (st := (topS 8)) lmach cmach kmach
  have Bmach := Fmach.binds (ps := ["meeting"]) fun _ _ _ _ _ _ us hl => match us, hl with | [_], _ => rfl
  have Ftakes := fun_mk (st := (topS 11)) ltakes ctakes ktakes
  have Btakes := Ftakes.binds (ps := ["meeting", "machines"]) fun _ _ _ _ _ _ us hl => match us, hl with | [_, _], _ => rfl
  have Fcellat := fun_mk (st := (topS 15)) lcellat ccellat kcellat
  have Bcellat := Fcellat.binds (ps := ["_law_script", "_law_k"]) fun _ _ _ _ _ _ us hl => match us, hl with | [_, _], _ => rfl
  have Fmixed := fun_mk (st := (topS 16)) lmixed cmixed kmixed
  have Bmixed := Fmixed.binds (ps := ["_law_cell", "_law_k"]) fun _ _ _ _ _ _ us hl => match us, hl with | [_, _], _ => rfl
  have Frow := fun_mk (st := (topS 17)) lrow crow krow
  have Brow := Frow.binds (ps := ["_law_cell", "_law_many"]) fun _ _ _ _ _ _ us hl => match us, hl with | [_, _], _ => rfl
  have Fmee := fun_mk (st := (topS 18)) lmee cmee kmee
  have Bmee := Fmee.binds (ps := ["_law_row_here"]) fun _ _ _ _ _ _ us hl => match us, hl with | [_], _ => rfl
  have Flrows := fun_mk (st := (topS 19)) llrows clrows klrows
  have Blrows := Flrows.binds (ps := ["_law_run"]) fun _ _ _ _ _ _ us hl => match us, hl with | [_], _ => rfl
  have Fcha := fun_mk (st := (topS 20)) lcha ccha kcha
  have Bcha := Fcha.binds (ps := ["_law_rows_here"]) fun _ _ _ _ _ _ us hl => match us, hl with | [_], _ => rfl
  have Flaw := fun_mk (st := (topS 21)) llaw claw klaw
  have Blaw := Flaw.binds (ps := ["_law_script"]) fun _ _ _ _ _ _ us hl => match us, hl with | [_], _ => rfl
  have Finit := fun_mk (st := (inClass (topS 10) 0)) linit cinit kinit
  have Binit := Finit.binds (ps := ["self", "meetings"]) fun _ _ _ _ _ _ us hl => match us, hl with | [_, _], _ => rfl
  have Flen := fun_mk (st := (inClass (topS 10) 2)) llen clen klen
  have Blen := Flen.binds (ps := ["self"]) fun _ _ _ _ _ _ us hl => match us, hl with | [_], _ => rfl
  have Fget := fun_mk (st := (inClass (topS 10) 4)) lget cget kget
  have Bget := Fget.binds (ps := ["self", "at"]) fun _ _ _ _ _ _ us hl => match us, hl with | [_, _], _ => rfl
  have Fdep := fun_mk (st := (inClass (topS 10) 9)) ldep cdep kdep
  have Bdep := Fdep.binds (ps := ["self", "j", "i"]) fun _ _ _ _ _ _ us hl => match us, hl with | [_, _, _], _ => rfl
  have T : RunT K mg := { isinst := PySem.W.mg_none_of X G z_isinstance, int := PySem.W.mg_none_of X G z_int, bool := PySem.W.mg_none_of X G z_bool, len := PySem.W.mg_none_of X G z_len, any := PySem.W.mg_none_of X G z_any, tuple := PySem.W.mg_none_of X G z_tuple }
  have L : LawT K mg := { len := PySem.W.mg_none_of X G z_len, int := PySem.W.mg_none_of X G z_int, abs := PySem.W.mg_none_of X G z_abs, range := PySem.W.mg_none_of X G z_range }
  have R : RunC K mg C := { cl := ⟨pg, hd, po, sa⟩, nR := nR, mgC := PySem.W.mg_of X G aC }
  refine ⟨PySem.W.fnOf "law" "law" (defArgs (topS 21)) (defBody (topS 21)) (defScope (topS 21)) .none kVlaw dclaw pmlaw anlaw cdlaw ctlaw, fun s v => .of_eq rfl, fun base _ _ => ?_⟩
  have Gisint : CalX P w K mg base CX0 1 "is_int" spIsInt := ⟨_, _, _, ok_isint Fisint T, PySem.W.mg_of X G aisint, kisint, Bisint⟩
  have Gindex : CalX P w K mg base CX0 2 "is_index" spIndex := ⟨_, _, _, ok_index Findex Gisint, PySem.W.mg_of X G aindex, kindex, Bindex⟩
  have Gmach : CalX P w K mg base CX0 1 "machines_in" spMach := ⟨_, _, _, ok_mach Fmach, PySem.W.mg_of X G amach, kmach, Bmach⟩
  have Gtakes : CalX P w K mg base CX0 2 "takes_any" spTakes := ⟨_, _, _, ok_takes Ftakes T Gmach, PySem.W.mg_of X G atakes, ktakes, Btakes⟩
  have Gcellat : CalX P w K mg base CX0 1 "_law_cell_at" (spCellAt K) := ⟨_, _, _, ok_cell_at Fcellat L, PySem.W.mg_of X G acellat, kcellat, Bcellat⟩
  have Gmixed : CalX P w K mg base CX0 1 "_law_mixed" spMixed := ⟨_, _, _, ok_mixed Fmixed L, PySem.W.mg_of X G amixed, kmixed, Bmixed⟩
  have Grow : CalX P w K mg base CX0 2 "_law_row" spRow := ⟨_, _, _, ok_row Frow L Gmixed, PySem.W.mg_of X G arow, krow, Brow⟩
  have MR : MakX P w K mg base CX0 1 "Run" C (spRunInit K C) := ⟨_, _, _, ⟨mk, minit, iinit, kc⟩, ok_runinit Finit T R, PySem.W.mg_of X G aC, Binit⟩
  have IX : IxM K C fget := ⟨mget, iget, fi⟩
  have LM : LenM K C flen := ⟨mlen, ilen⟩
  have OG := ok_runget (P := P) (w := w) (base := base) Fget T R Gindex
  have OL := ok_runlen (P := P) (w := w) (base := base) Flen T R
  have Gmee : CalX P w K mg base CX0 1 "_law_meetings" spMeetings := ⟨_, _, _, ok_mee Fmee L (PySem.W.mg_none_of X G z_tuple), PySem.W.mg_of X G amee, kmee, Bmee⟩
  have Glrows : CalX P w K mg base CX0 5 "_law_rows" (spLRows C) := ⟨_, _, _, ok_lrows Flrows L IX OG Bget LM OL Blen, PySem.W.mg_of X G alrows, klrows, Blrows⟩
  have Gcha : CalX P w K mg base CX0 1 "_law_chains" spChains := ⟨_, _, _, ok_chains Fcha L (PySem.W.mg_none_of X G z_any), PySem.W.mg_of X G acha, kcha, Bcha⟩
  exact ok_law Flaw L T R Gcellat Grow Gmee MR Gcha Glrows ⟨mdep, idep, kdep⟩ (ok_depends Fdep R Gmach Gtakes IX OG Bget) Bdep
theorem walk {l : PySem.W.OpenLaw} {q : Program} {loose : List Str} {XP : (Str → Option Value) → Heap → Prop} {YP : World → Heap → Prop} {d : DefRec} {K : Params → PySem.W.Frag} (hn : l.most = some 63) (hdf : d.params.defaults = [])
    (hY : ∀ (w : World) (h : Heap), YP w h → (K w.params).In h)
    (hF : ∀ (w : World) (mg : Str → Option Value) (fa : Addr) (h : Heap), (K w.params).In h → h.Ns mainGlobals mg → mg d.name = some (.ref fa) →
      ∃ fd : FuncData, (∀ (s : Shared) (u : Value), BindsTo s fd ⟨[u], []⟩ [("_law_script", u)]) ∧ ∀ base : Heap, (K w.params).In base → base.Ns mainGlobals mg → FnOk l.prog w (K w.params) mg base CX0 6 fa fd ["_law_script"] (spLaw (K w.params))) :
    PySem.W.WalkO q loose XP YP l.row.toRowW d [] (fun f vs => PySem.call f vs) :=
  L2.walk_of (n := 63) (k := 6) (x := "_law_script") (CX := fun _ => CX0) (sp := fun w => spLaw (K w.params)) hn (by decide) hdf ⟨rfl, by decide, by decide⟩ hY hF (fun _ _ a ns _ _ hS => ⟨a, ns, rfl, hS, fun _ _ => rfl⟩) fun _ _ _ _ _ z => z
end Fs

open PySem PySem.W PyProof.Rows
set_option Elab.async false
set_option maxRecDepth 100000 in
set_option maxHeartbeats 0 in
theorem PySem.Challenge.cw_fullseats_k34_dependence_holds : PySem.Challenge.rw_fullseats_k34_dependence.Holds := by
  w_on; o_law; k_head; (case hw => w_witness2)
  k_fill
  refine Fs.walk (l := PySem.Challenge.rw_fullseats_k34_dependence) rfl rfl (fun w h Y => PySem.W.kIn_of Y) ?F
  case F =>
    intro w mg fa h KX G hmg
    refine' Fs.all_mk KX G hmg ?aisint ?lisint ?cisint ?kisint ?aindex ?lindex ?cindex ?kindex ?amach ?lmach ?cmach ?kmach ?atakes ?ltakes ?ctakes ?ktakes ?acellat ?lcellat ?ccellat ?kcellat ?amixed ?lmixed ?cmixed ?kmixed ?arow ?lrow ?crow ?krow ?amee ?lmee ?cmee ?kmee ?alrows ?llrows ?clrows ?klrows ?acha ?lcha ?ccha ?kcha ?alaw ?llaw ?claw ?klaw ?aC ?pg ?hd ?po ?sa ?nR ?mk ?kc ?minit ?iinit ?linit ?cinit ?kinit ?mlen ?ilen ?llen ?clen ?klen ?mget ?iget ?lget ?cget ?kget ?mdep ?idep ?ldep ?cdep ?kdep ?fi ?z_isinstance ?z_int ?z_bool ?z_len ?z_any ?z_tuple ?z_abs ?z_range
    (case aisint => k_is)
    (case lisint => k_is)
    (case cisint => k_is)
    (case kisint => k_is)
    (case aindex => k_is)
    (case lindex => k_is)
    (case cindex => k_is)
    (case kindex => k_is)
    (case amach => k_is)
    (case lmach => k_is)
    (case cmach => k_is)
    (case kmach => k_is)
    (case atakes => k_is)
    (case ltakes => k_is)
    (case ctakes => k_is)
    (case ktakes => k_is)
    (case acellat => k_is)
    (case lcellat => k_is)
    (case ccellat => k_is)
    (case kcellat => k_is)
    (case amixed => k_is)
    (case lmixed => k_is)
    (case cmixed => k_is)
    (case kmixed => k_is)
    (case arow => k_is)
    (case lrow => k_is)
    (case crow => k_is)
    (case krow => k_is)
    (case amee => k_is)
    (case lmee => k_is)
    (case cmee => k_is)
    (case kmee => k_is)
    (case alrows => k_is)
    (case llrows => k_is)
    (case clrows => k_is)
    (case klrows => k_is)
    (case acha => k_is)
    (case lcha => k_is)
    (case ccha => k_is)
    (case kcha => k_is)
    (case alaw => k_is)
    (case llaw => k_is)
    (case claw => k_is)
    (case klaw => k_is)
    (case aC => k_is)
    (case pg => k_is)
    (case hd => k_is)
    (case po => k_is)
    (case sa => k_is)
    (case nR => k_is)
    (case mk => k_is)
    (case kc => k_is)
    (case minit => k_is)
    (case iinit => k_is)
    (case linit => k_is)
    (case cinit => k_is)
    (case kinit => k_is)
    (case mlen => k_is)
    (case ilen => k_is)
    (case llen => k_is)
    (case clen => k_is)
    (case klen => k_is)
    (case mget => k_is)
    (case iget => k_is)
    (case lget => k_is)
    (case cget => k_is)
    (case kget => k_is)
    (case mdep => k_is)
    (case idep => k_is)
    (case ldep => k_is)
    (case cdep => k_is)
    (case kdep => k_is)
    (case fi => k_is)
    (case z_isinstance => k_is)
    (case z_int => k_is)
    (case z_bool => k_is)
    (case z_len => k_is)
    (case z_any => k_is)
    (case z_tuple => k_is)
    (case z_abs => k_is)
    (case z_range => k_is)

