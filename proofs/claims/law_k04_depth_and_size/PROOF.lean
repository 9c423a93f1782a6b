import PyProof.Rows.All
import Wide.All
import OpenK.AllK
import Wide.FinOn
import HandS.Base
import HandS.Call
import HandS.List
import HandS.Exc
import HandS.ExcOwn
import HandS.ClsMeth
import KE.DatumOrd
import HandS.SortKw
import HandS.ForMost
import HandS.Evl
import HandS.ForExc
import HandS.Walk
import HandS.IsInst
import HandS.Codes
import PyProof.FString
import KE.KSuper
import KE.KExcSuper
import KE.OsGo
import HandS.Strs
import HandS.TupSets
import HandS.Flow
import HandS.TupAny
import HandS.ExcField
import HandS.TryOnly
import KE.KExcLine
import KE.RegKSuper
import PySem.Challenge.RW_fullseats_k04_depth_and_size
set_option Elab.async false
set_option linter.all false
set_option maxRecDepth 100000
set_option maxHeartbeats 2000000
/-! A staticmethod that is called off its class. -/
namespace FsR
open PySem PySem.Spec PyProof.Rows L2 ClX
structure SMet (K : PySem.W.Frag) (C : Addr) (mc : Value) (m : Str) (p g : Addr) : Prop where
  at_ : PySem.W.findCls K (.ref C) mc m = some (.get (.builtin "staticmethod.__get__") (.ref p) .none (.ref C))
  rc : ∃ rest, PySem.W.recIn K p "staticmethod" = some (.ref g :: rest)
  kp : PySem.W.keepIn K (.ref g) = true
section
variable {X : Cx} {pins : List (Addr × Obj)} {σ : L2.St} {H : Hp} {s : Shared} {C p g : Addr} {mc : Value} {m : Str} {A : Around} {E : Value → Shared → Prop}
theorem getmethsm_ok {pl : Sem Bool} {Q : Value × List Value → Shared → Prop} (I : Inv X pins σ H s) (r : CRead X.K C mc) (k : SMet X.K C mc m p g)
    (h : ∀ s', Inv X pins σ H s' → Q (.ref g, []) s') : wpAny (model X.prog X.w) A (getMethod (.ref C) m pl) Q E s := by
  obtain ⟨rest, hp⟩ := k.rc
  exact PySem.W.method_cls I.kIn r.ga (PySem.W.cls_bind I.kIn r.rd k.at_ (wpAny_call (PySem.W.sm_get (s := { s with toks := s.toks + 1 }) I.kIn hp (PySem.W.handed_on rfl (h _ (I.tok _))))))
end
/-- C.m(..), e the class at C, m a staticmethod; E: what is wanted of what it raises, at the slots -/
def tStat (C : Addr) (sp : Sp) (E : L2.St → XK) (ta : TE) (t : TA) : TE := fun σ H Q => ta σ H fun x H1 => x = .ref C ∧ t σ H1 fun vs H2 => sp vs H2 Q (E σ)
theorem passesAt_of {CX : CXT} {X : Cx} {E : XK} (h : Passes CX X E) (σ : L2.St) : PassesAt CX X σ E := fun pins H s e s' I c => h pins σ H s e s' I c
section
variable {X : Cx} {CX : CXT} {k : Nat} {C p g : Addr} {mc : Value} {fd : FuncData} {ps : List Str} {sp : Sp} {E : L2.St → XK} {o e : Expr} {es : List Expr} {m : Str} {pos apos : Pos} {ta : TE} {t : TA} {pl : Sem Bool}
theorem pe_stat (he : PE X o ta) (r : CRead X.K C mc) (c : SMet X.K C mc m p g) (F : FnOk X.prog X.w X.K X.mg X.base CX k g fd ps sp) (hr : Room k X.A) (hb : Binds X.K fd ps []) (hx : ∀ σ, PassesAt CX X σ (E σ)) (ha : PA X (e :: es) t)
    (hst : starEach (e :: es) X.env = (false, eval e X.env) :: starEach es X.env := by rfl) (hpl : (backTo pos (starEach es X.env)).any (·.1) = false := by rfl)
    (ht : eval (.Call (.Attribute o m apos) (e :: es) [] pos) X.env = (do
      let ov ← eval o X.env
      standAt apos.atName
      let (f, first) ← holding [ov] (getMethod ov m pl)
      callWith pos f first (backTo pos (starEach (e :: es) X.env)) (backToKw pos (keywordEach [] X.env))) := by rfl) :
    PE X (.Call (.Attribute o m apos) (e :: es) [] pos) (tStat C sp E ta t) := by
  refine ⟨fun pins s σ H Q I h => ?_⟩
  refine PySem.W.methodCall_KW (pl := pl) (thn (he.run pins s σ H _ I h) fun u s1 ⟨x, H1, I1, rx, ex, q⟩ => ?_) ht
  subst ex
  obtain rfl : u = Value.ref C := rx
  refine getmethsm_ok I1 r c fun s2 I2 => ?_
  refine PySem.W.callWith_K (first := []) (h₀ := X.base) I.ok.mod.kin c.kp (thn (ha.run pos pins s2 σ H1 _ I2 q) fun us s3 ⟨vs, H2, I3, rv, q2⟩ => ⟨I3.kIn, ?_⟩) hst hpl
  exact run_fnS F hr hb (hx σ) I3 rv q2
theorem pe_stat0 (he : PE X o ta) (r : CRead X.K C mc) (c : SMet X.K C mc m p g) (F : FnOk X.prog X.w X.K X.mg X.base CX k g fd ps sp) (hr : Room k X.A) (hb : Binds X.K fd ps []) (hx : ∀ σ, PassesAt CX X σ (E σ))
    (ht : eval (.Call (.Attribute o m apos) [] [] pos) X.env = (do
      let ov ← eval o X.env
      standAt apos.atName
      let (f, first) ← holding [ov] (getMethod ov m pl)
      callWith pos f first (backTo pos (starEach [] X.env)) (backToKw pos (keywordEach [] X.env))) := by rfl) :
    PE X (.Call (.Attribute o m apos) [] [] pos) (tStat C sp E ta tNil) := by
  refine ⟨fun pins s σ H Q I h => ?_⟩
  refine PySem.W.methodCall_KW (pl := pl) (thn (he.run pins s σ H _ I h) fun u s1 ⟨x, H1, I1, rx, ex, q⟩ => ?_) ht
  subst ex
  obtain rfl : u = Value.ref C := rx
  refine getmethsm_ok I1 r c fun s2 I2 => ?_
  exact PySem.W.callWith_K0 (first := []) I2.kIn c.kp (run_fnS (us := []) (vs := []) F hr hb (hx σ) I2 .nil q)
end
end FsR

set_option Elab.async false
set_option linter.all false
set_option maxRecDepth 100000
set_option maxHeartbeats 2000000
/-! max(xs, default=d) of a list of ints -/
namespace FsR
open PySem PySem.Spec PyProof.Rows L2
def maxFrom (y : Int) (ys : List Int) : Int := ys.foldl max y
def maxDef (d : Int) : List Int → Int
  | [] => d
  | y :: ys => maxFrom y ys
theorem maxOf_eq : ∀ (ys : List Int) (y : Int), PySem.W.maxOf y ys = maxFrom y ys
  | [], y => rfl
  | z :: zs, y => by
    have e : (if PySem.W.DatumOrd.lt y z = true then z else y) = max y z := by
      show (if decide (y < z) = true then z else y) = max y z
      by_cases h : y < z
      · rw [if_pos (decide_eq_true h)]; omega
      · rw [if_neg (by simpa using h)]; omega
    have ih := maxOf_eq zs (max y z)
    unfold PySem.W.maxOf maxFrom at *
    rw [List.foldl_cons, List.foldl_cons, e]
    exact ih
theorem readsAll_ints {h : Heap} : ∀ {vs : List Value} {ns : List Int}, IntsAre vs ns → ∃ as, ReadsAll h vs (ns.map PySem.W.Datum.toD) as
  | _, _, .nil => ⟨[], .nil⟩
  | _, _, .cons n t r => by
    obtain ⟨as, z⟩ := readsAll_ints (h := h) r
    exact ⟨[] ++ as, .cons (.int n t) z⟩
/-- max(xs, default=d) -/
def rMaxD (K : PySem.W.Frag) : List V → List V → Hp → VK → Prop := fun xs zs H Q => ∃ (a : Addr) (ns : List Int) (d : Int), xs = [V.ref a] ∧ zs = [V.int d] ∧ SqL K H a (ns.map V.int) ∧ Q (.int (maxDef d ns)) H
theorem ck_maxD {X : Cx} (hc : X.calm = true) (hu : X.A.units + 1 + 1 < cLine) : CallRK X (.builtin "max") ["default"] (rMaxD X.K) := by
  intro pins s σ H xs zs us ws Q I r rz h
  obtain ⟨a, ns, d, rfl, rfl, hs, q⟩ := h
  obtain ⟨its, rv, hl, _⟩ := I.list hs
  rw [Vals.ref1 r]
  cases rz with
  | cons rd rn =>
    cases rn
    obtain ⟨t, rfl⟩ := rd
    have hI := rv.ints
    show wpAny (model X.prog X.w) X.A (call (.builtin "max") [.ref a] [(Str.ofString "default", .int d t)]) _ _ _
    refine PySem.W.max_list_datum_default (α := Int) (xs := ns) (I.ok.hd hc) hl.isList (readsAll_ints hI) (by show X.A.units + 1 + 0 < cLine; omega) (fun e h' tk hk => ?_) (fun y ys i v h' tk e hi hv hk => ?_)
    · subst e
      exact ⟨.int d, H, I.kept hk, ⟨t, rfl⟩, q⟩
    · subst e
      obtain ⟨as, z⟩ := hv
      have z' : ∃ t', v = Value.int (PySem.W.maxOf y ys) t' := by
        have z2 : Reads h' v (.int (PySem.W.maxOf y ys)) as := z
        cases z2 with
        | int _ t' => exact ⟨t', rfl⟩
      obtain ⟨t', rfl⟩ := z'
      refine ⟨.int (PySem.W.maxOf y ys), H, I.kept hk, ⟨t', rfl⟩, ?_⟩
      rw [maxOf_eq]
      exact q
end FsR

set_option Elab.async false
set_option linter.all false
set_option maxRecDepth 100000
set_option maxHeartbeats 2000000
namespace Fs
open PySem L2 Evl
/-! ### operands, processes, offers -/
inductive Opd where
  | int (i : Int)
  | nm (z : Str)
def Opd.v : Opd → V
  | .int i => .int i
  | .nm z => .str z
mutual
inductive Pr where
  | choice (os : Ofs)
  | new (n : Str) (k : Int) (r : Pr)
  | cond (l r : Opd) (y n : Pr)
  | call (n : Str) (ops : List Opd)
inductive Ofs where
  | nil
  | cons (c : Str) (seat seats : Int) (op : Opd) (names : List Str) (rest : Pr) (os : Ofs)
end
mutual
def Pr.depth : Pr → Int
  | .choice os => 1 + os.depth
  | .new _ _ r => 1 + r.depth
  | .cond _ _ y n => 1 + max y.depth n.depth
  | .call _ _ => 1
def Ofs.depth : Ofs → Int
  | .nil => 0
  | .cons _ _ _ _ _ r os => max r.depth os.depth
end
def Ofs.len : Ofs → Nat
  | .nil => 0
  | .cons _ _ _ _ _ _ os => os.len + 1
mutual
def Pr.size : Pr → Int
  | .choice os => max 1 (os.len : Int) + os.sum
  | .new _ _ r => 1 + r.size
  | .cond _ _ y n => 1 + (y.size + n.size)
  | .call _ _ => 1
def Ofs.sum : Ofs → Int
  | .nil => 0
  | .cons _ _ _ _ _ r os => r.size + os.sum
end
def Pr.kind : Pr → Str
  | .choice _ => "choice"
  | .new _ _ _ => "new"
  | .cond _ _ _ _ => "if"
  | .call _ _ => "call"
/-- the attributes, in the order in which __init__ stores them -/
def pFlds (k : Str) (t : Addr) (d z : Int) : List (Str × V) := putF "size" (.int z) (putF "depth" (.int d) (putF "parts" (.ref t) (putF "kind" (.str k) [])))
theorem n1 : ¬ (("kind" : Str) = "parts") := by decide +kernel
theorem n2 : ¬ (("kind" : Str) = "depth") := by decide +kernel
theorem n3 : ¬ (("kind" : Str) = "size") := by decide +kernel
theorem n4 : ¬ (("parts" : Str) = "depth") := by decide +kernel
theorem n5 : ¬ (("parts" : Str) = "size") := by decide +kernel
theorem n6 : ¬ (("depth" : Str) = "size") := by decide +kernel
theorem pf_kind {k : Str} {t : Addr} {d z : Int} : (pFlds k t d z).lookup ("kind" : Str) = some (.str k) := by
  unfold pFlds
  rw [lookup_putF, if_neg n3, lookup_putF, if_neg n2, lookup_putF, if_neg n1, lookup_putF, if_pos rfl]
theorem pf_parts {k : Str} {t : Addr} {d z : Int} : (pFlds k t d z).lookup ("parts" : Str) = some (.ref t) := by
  unfold pFlds
  rw [lookup_putF, if_neg n5, lookup_putF, if_neg n4, lookup_putF, if_pos rfl]
theorem pf_depth {k : Str} {t : Addr} {d z : Int} : (pFlds k t d z).lookup ("depth" : Str) = some (.int d) := by
  unfold pFlds
  rw [lookup_putF, if_neg n6, lookup_putF, if_pos rfl]
theorem pf_size {k : Str} {t : Addr} {d z : Int} : (pFlds k t d z).lookup ("size" : Str) = some (.int z) := by
  unfold pFlds
  rw [lookup_putF, if_pos rfl]
/-- an instance of the class at C with these parts -/
def InsAt (C : Addr) (H : Hp) (a : Addr) (k : Str) (t : Addr) (d z : Int) : Prop := ∃ dx, H a = some (.ins C dx (pFlds k t d z))
mutual
/-- at a stands the process p -/
def PrAt (C : Addr) (H : Hp) (a : Addr) : Pr → Prop
  | .choice os => ∃ t ps, InsAt C H a "choice" t (1 + os.depth) (max 1 (os.len : Int) + os.sum) ∧ H t = some (.tup ps) ∧ OfsAt C H ps os
  | .new n k r => ∃ t b, InsAt C H a "new" t (1 + r.depth) (1 + r.size) ∧ H t = some (.tup [.str n, .int k, .ref b]) ∧ PrAt C H b r
  | .cond l r y n => ∃ t b c, InsAt C H a "if" t (1 + max y.depth n.depth) (1 + (y.size + n.size)) ∧ H t = some (.tup [l.v, r.v, .ref b, .ref c]) ∧ PrAt C H b y ∧ PrAt C H c n
  | .call n ops => ∃ t u, InsAt C H a "call" t 1 1 ∧ H t = some (.tup [.str n, .ref u]) ∧ H u = some (.tup (ops.map Opd.v))
def OfsAt (C : Addr) (H : Hp) (ps : List V) : Ofs → Prop
  | .nil => ps = []
  | .cons c s m op ns r os => ∃ o u b qs, ps = .ref o :: qs ∧ H o = some (.tup [.str c, .int s, .int m, op.v, .ref u, .ref b]) ∧ H u = some (.tup (ns.map V.str)) ∧ PrAt C H b r ∧ OfsAt C H qs os
end
theorem InsAt.ex {C : Addr} {H H' : Hp} {a : Addr} {k : Str} {t : Addr} {d z : Int} (e : Ex H H') (h : InsAt C H a k t d z) : InsAt C H' a k t d z := by
  obtain ⟨dx, h⟩ := h
  exact ⟨dx, e _ _ h⟩
mutual
theorem PrAt.ex {C : Addr} {H H' : Hp} (e : Ex H H') : ∀ {p : Pr} {a : Addr}, PrAt C H a p → PrAt C H' a p
  | .choice os, a, h => by
    unfold PrAt at h ⊢
    obtain ⟨t, ps, h1, h2, h3⟩ := h
    exact ⟨t, ps, h1.ex e, e _ _ h2, OfsAt.ex e h3⟩
  | .new n k r, a, h => by
    unfold PrAt at h ⊢
    obtain ⟨t, b, h1, h2, h3⟩ := h
    exact ⟨t, b, h1.ex e, e _ _ h2, PrAt.ex e h3⟩
  | .cond l r y n, a, h => by
    unfold PrAt at h ⊢
    obtain ⟨t, b, c, h1, h2, h3, h4⟩ := h
    exact ⟨t, b, c, h1.ex e, e _ _ h2, PrAt.ex e h3, PrAt.ex e h4⟩
  | .call n ops, a, h => by
    unfold PrAt at h ⊢
    obtain ⟨t, u, h1, h2, h3⟩ := h
    exact ⟨t, u, h1.ex e, e _ _ h2, e _ _ h3⟩
theorem OfsAt.ex {C : Addr} {H H' : Hp} (e : Ex H H') : ∀ {os : Ofs} {ps : List V}, OfsAt C H ps os → OfsAt C H' ps os
  | .nil, ps, h => by
    unfold OfsAt at h ⊢
    exact h
  | .cons c s m op ns r os, ps, h => by
    unfold OfsAt at h ⊢
    obtain ⟨o, u, b, qs, h1, h2, h3, h4, h5⟩ := h
    exact ⟨o, u, b, qs, h1, e _ _ h2, e _ _ h3, PrAt.ex e h4, OfsAt.ex e h5⟩
end
/-- whatever the process: its instance -/
theorem PrAt.ins {C : Addr} {H : Hp} {p : Pr} {a : Addr} (h : PrAt C H a p) : ∃ t ps, InsAt C H a p.kind t p.depth p.size ∧ H t = some (.tup ps) := by
  cases p with
  | choice os =>
    unfold PrAt at h
    obtain ⟨t, ps, h1, h2, _⟩ := h
    exact ⟨t, ps, by unfold Pr.kind Pr.depth Pr.size; exact h1, h2⟩
  | new n k r =>
    unfold PrAt at h
    obtain ⟨t, b, h1, h2, _⟩ := h
    exact ⟨t, _, by unfold Pr.kind Pr.depth Pr.size; exact h1, h2⟩
  | cond l r y n =>
    unfold PrAt at h
    obtain ⟨t, b, c, h1, h2, _⟩ := h
    exact ⟨t, _, by unfold Pr.kind Pr.depth Pr.size; exact h1, h2⟩
  | call n ops =>
    unfold PrAt at h
    obtain ⟨t, u, h1, h2, _⟩ := h
    exact ⟨t, _, by unfold Pr.kind Pr.depth Pr.size; exact h1, h2⟩
end Fs

set_option Elab.async false
set_option linter.all false
set_option maxRecDepth 100000
set_option maxHeartbeats 2000000
/-! further Ev lemmas -/
namespace FsE
open PySem L2 Evl
section
variable {K : PySem.W.Frag} {σ : L2.St} {H : Hp} {ta tb tc te : TE} {x y z : V}
theorem ev_chain {r r' : R2} {a b : Bool} (ha : Ev ta σ H x) (hb : Ev tb σ H y) (h1 : RV r x y H (.bl a)) (hc : a = true → Ev tc σ H z) (h2 : a = true → RV r' y z H (.bl b)) : Ev (tChain r r' ta tb tc) σ H (.bl (a && b)) := fun H1 e Q q =>
  ha H1 e _ fun H2 e2 => hb H2 (e.trans e2) _ fun H3 e3 => h1 H3 ((e.trans e2).trans e3) _ fun H4 e4 => ⟨a, rfl, by
    cases a with
    | true =>
      show tc σ H4 _
      exact hc rfl H4 (((e.trans e2).trans e3).trans e4) _ fun H5 e5 => h2 rfl H5 ((((e.trans e2).trans e3).trans e4).trans e5) Q fun H6 e6 => q H6 ((((e2.trans e3).trans e4).trans e5).trans e6)
    | false =>
      show Q (.bl false) H4
      exact q H4 ((e2.trans e3).trans e4)⟩
theorem rc_isi {t T : String} {b : Bool} (ht : ∀ H1, Ex H H1 → TyX K H1 x (.type t)) (hk : kitB t T = some b) : RC (rIsi K) [x, .ty T] H (.bl b) := fun H1 e Q q =>
  ⟨x, .ty T, .type t, .type T, b, rfl, .ty T, ht H1 e, kit_ty hk, q H1 (Ex.refl H1)⟩
theorem rc_isStr {z : Str} {T : String} {b : Bool} (hk : kitB "str" T = some b) : RC (rIsi K) [.str z, .ty T] H (.bl b) := rc_isi (fun _ _ => .base (.str z)) hk
theorem rc_isInt {i : Int} {T : String} {b : Bool} (hk : kitB "int" T = some b) : RC (rIsi K) [.int i, .ty T] H (.bl b) := rc_isi (fun _ _ => .base (.int i)) hk
/-- len of a text -/
theorem rc_lenS {z : Str} (hz : z.length ≤ sizeLine) : RC (fun xs H Q => ∃ a, xs = [.str a] ∧ a.length ≤ sizeLine ∧ Q (.int (a.length : Nat)) H) [.str z] H (.int (z.length : Nat)) := fun H1 _ _ q => ⟨z, rfl, hz, q H1 (Ex.refl H1)⟩
theorem rv_inSign {c : Nat} {z : Str} : RV (fun x y H Q => ∃ (c : Nat) (z : Str), x = .str ⟨#[c]⟩ ∧ y = .str z ∧ Q (.bl (decide (c ∈ z.cps.toList))) H) (.str ⟨#[c]⟩) (.str z) H (.bl (decide (c ∈ z.cps.toList))) := fun H1 _ _ q => ⟨c, z, rfl, rfl, q H1 (Ex.refl H1)⟩
theorem rv_niSign {c : Nat} {z : Str} : RV (fun x y H Q => ∃ (c : Nat) (z : Str), x = .str ⟨#[c]⟩ ∧ y = .str z ∧ Q (.bl (!decide (c ∈ z.cps.toList))) H) (.str ⟨#[c]⟩) (.str z) H (.bl (!decide (c ∈ z.cps.toList))) := fun H1 _ _ q => ⟨c, z, rfl, rfl, q H1 (Ex.refl H1)⟩
/-- a comprehension over a text -/
theorem el_lcS {z : Str} {tl : TE} {j : Nat} {vs : List Nat} {t : TT} (f : Nat → Bool) (v : Nat → V) (h : Ev tl σ H (.str z)) (hz : z.cps.size ≤ 40000) (hw : ∀ x, wipe ((wipe σ vs).set j (some x)) vs = wipe σ vs)
    (ht : ∀ (i : Nat) (c : Nat) H1, Ex H H1 → z.cps[i]? = some c → EvT t ((wipe σ vs).set j (some (.str ⟨#[c]⟩))) H1 (f i)) (he : ∀ (i : Nat) (c : Nat) H1, Ex H H1 → z.cps[i]? = some c → f i = true → Ev te ((wipe σ vs).set j (some (.str ⟨#[c]⟩))) H1 (v i)) :
    EvL (tLc (iStr tl) (gName j) t te vs) σ H (given z.cps.size f v) := fun H0 e Q q => h H0 e _ fun H1 e1 => ⟨z, rfl, fun Dl hD =>
  lc_it walk_str (Cw H1 f v Dl) ⟨hD, Ex.new hD, upd_same⟩ (fun _ _ _ _ => trivial) (fun i x H' H2 hi p y => by
    obtain ⟨rfl, c, hc, rfl⟩ := y
    exact ⟨hw _, cw_turn p (by omega) (ht i c H1 (e.trans e1) hc) (fun hf => he i c H1 (e.trans e1) hc hf)⟩)
    (fun H' p => q Dl H' (fresh_back e1 p.1) (e1.trans p.2.1) p.2.2)⟩
/-- all of a new list of bools -/
theorem ev_all {bs : List Bool} (h : EvL te σ H (bs.map V.bl)) : Ev (tCB (rAll K) (tCons te tNil)) σ H (.bl (bs.all id)) := fun H1 e Q q =>
  h H1 e _ fun p H2 _ e2 hp => ⟨p, bs, rfl, sq_of hp, q H2 e2⟩
/-- given, no test -/
theorem given_all {n : Nat} {v : Nat → V} : given n (fun _ => true) v = (List.range n).map v := by
  unfold given
  rw [List.filter_eq_self.mpr (fun _ _ => rfl)]
theorem et_nil : EvT tYes σ H true := fun H1 _ _ q => q H1 (Ex.refl H1)
theorem range_map {α : Type} (xs : List α) (d : α) (v : α → V) : (List.range xs.length).map (fun i => v (xs.getD i d)) = xs.map v := by
  refine List.ext_getElem? fun i => ?_
  rw [List.getElem?_map, List.getElem?_map]
  by_cases hi : i < xs.length
  · rw [List.getElem?_range hi, List.getElem?_eq_getElem hi]
    show some (v (xs.getD i d)) = some (v xs[i])
    rw [List.getD_eq_getElem?_getD, List.getElem?_eq_getElem hi]
    rfl
  · rw [List.getElem?_eq_none (by rw [List.length_range]; omega), List.getElem?_eq_none (by omega)]
    rfl
/-- [e for c in text] -/
theorem el_lcSm {z : Str} {tl : TE} {j : Nat} {vs : List Nat} (v : Nat → V) (h : Ev tl σ H (.str z)) (hz : z.length ≤ 40000) (hw : ∀ x, wipe ((wipe σ vs).set j (some x)) vs = wipe σ vs)
    (he : ∀ (c : Nat) H1, Ex H H1 → c ∈ z.cps.toList → Ev te ((wipe σ vs).set j (some (.str ⟨#[c]⟩))) H1 (v c)) : EvL (tLc (iStr tl) (gName j) tYes te vs) σ H (z.cps.toList.map v) := by
  have g := el_lcS (te := te) (j := j) (vs := vs) (t := tYes) (fun _ => true) (fun i => v (z.cps.toList.getD i 0)) h hz hw (fun _ _ _ _ _ => et_nil) (fun i c H3 e hc _ => by
    have e1 : z.cps.toList.getD i 0 = c := by
      rw [List.getD_eq_getElem?_getD, Array.getElem?_toList, hc]
      rfl
    rw [e1]
    exact he c H3 e (by rw [List.mem_iff_getElem?]; exact ⟨i, by rw [Array.getElem?_toList, hc]⟩))
  rw [given_all] at g
  have e := range_map z.cps.toList 0 v
  rw [Array.length_toList] at e
  rw [e] at g
  exact g
/-- [e for x in list] -/
theorem el_lcLm {a : Addr} {xs : List V} {tl : TE} {j : Nat} {vs : List Nat} (v : V → V) (h : Ev tl σ H (.ref a)) (hx : SqL K H a xs) (hz : xs.length ≤ 40000) (hw : ∀ x, wipe ((wipe σ vs).set j (some x)) vs = wipe σ vs)
    (he : ∀ (x : V) H1, Ex H H1 → x ∈ xs → Ev te ((wipe σ vs).set j (some x)) H1 (v x)) : EvL (tLc (iList K tl) (gName j) tYes te vs) σ H (xs.map v) := by
  have g := el_lcL (K := K) (te := te) (j := j) (vs := vs) (t := tYes) (fun _ => true) (fun i => v (xs.getD i .non)) h hx hz hw (fun _ _ _ _ _ => et_nil) (fun i x H3 e hc _ => by
    have e1 : xs.getD i .non = x := by
      rw [List.getD_eq_getElem?_getD, hc]
      rfl
    rw [e1]
    exact he x H3 e (List.mem_iff_getElem?.mpr ⟨i, hc⟩))
  rw [given_all, range_map xs .non v] at g
  exact g
/-- [e for x in (a new list)] -/
theorem el_lcNLm {xs : List V} {tl : TE} {j : Nat} {vs : List Nat} (v : V → V) (h : EvL tl σ H xs) (hz : xs.length ≤ 40000) (hw : ∀ x, wipe ((wipe σ vs).set j (some x)) vs = wipe σ vs)
    (he : ∀ (x : V) H1, Ex H H1 → x ∈ xs → Ev te ((wipe σ vs).set j (some x)) H1 (v x)) : EvL (tLc (iList K tl) (gName j) tYes te vs) σ H (xs.map v) := by
  have g := el_lcNL (K := K) (te := te) (j := j) (vs := vs) (t := tYes) (fun _ => true) (fun i => v (xs.getD i .non)) h hz hw (fun _ _ _ _ _ => et_nil) (fun i x H3 e hc _ => by
    have e1 : xs.getD i .non = x := by
      rw [List.getD_eq_getElem?_getD, hc]
      rfl
    rw [e1]
    exact he x H3 e (List.mem_iff_getElem?.mpr ⟨i, hc⟩))
  rw [given_all, range_map xs .non v] at g
  exact g
/-- [e for k in range(n)] -/
theorem el_lcRm {tn : TA} {j : Nat} {vs : List Nat} {n : Int} (v : Nat → V) (h : EvA tn σ H [.int n]) (hn : 0 ≤ n ∧ n ≤ 40000) (hw : ∀ x, wipe ((wipe σ vs).set j (some x)) vs = wipe σ vs)
    (he : ∀ (i : Nat) H1, Ex H H1 → (i : Int) < n → Ev te ((wipe σ vs).set j (some (.int (i : Int)))) H1 (v i)) : EvL (tLc (iRng1 tn) (gName j) tYes te vs) σ H ((List.range n.toNat).map v) := by
  have g := el_lcR1 (te := te) (j := j) (vs := vs) (t := tYes) (fun _ => true) v h hn hw (fun _ _ _ _ => et_nil) (fun i H1 e hi _ => he i H1 e hi)
  rw [given_all] at g
  exact g
/-- a comprehension over a tuple -/
theorem el_lcT {a : Addr} {xs : List V} {tl : TE} {j : Nat} {vs : List Nat} {t : TT} (f : Nat → Bool) (v : Nat → V) (h : Ev tl σ H (.ref a)) (hx : SqT K H a xs) (hz : xs.length ≤ 40000) (hw : ∀ x, wipe ((wipe σ vs).set j (some x)) vs = wipe σ vs)
    (ht : ∀ (i : Nat) (x : V) H1, Ex H H1 → xs[i]? = some x → EvT t ((wipe σ vs).set j (some x)) H1 (f i)) (he : ∀ (i : Nat) (x : V) H1, Ex H H1 → xs[i]? = some x → f i = true → Ev te ((wipe σ vs).set j (some x)) H1 (v i)) :
    EvL (tLc (iTup K tl) (gName j) t te vs) σ H (given xs.length f v) := fun H0 e Q q => h H0 e _ fun H1 e1 => ⟨a, rfl, ⟨xs, ex_t (e.trans e1) hx⟩, fun Dl hD =>
  lc_tup (xs := xs) (Cw H1 f v Dl) ⟨hD, Ex.new hD, upd_same⟩ (fun i H' _ p => ex_t ((e.trans e1).trans p.2.1) hx) (fun i x H' hi p => ⟨hw x, cw_turn p (by have := (List.getElem?_eq_some_iff.mp hi).1; omega) (ht i x H1 (e.trans e1) hi) (fun hf => he i x H1 (e.trans e1) hi hf)⟩)
    (fun H' p => q Dl H' (fresh_back e1 p.1) (e1.trans p.2.1) p.2.2)⟩
theorem ev_fld {a C dx : Addr} {fs : List (Str × V)} {f : Str} {v : V} (h : Ev ta σ H (.ref a)) (hi : H a = some (.ins C dx fs)) (cl : Cls K C) (n : NoAttr K C f) (l : fs.lookup f = some v) : Ev (tFld K ta f) σ H v := fun H1 e Q q =>
  h H1 e _ fun H2 e2 => ⟨a, C, dx, fs, v, rfl, (e.trans e2) _ _ hi, cl, n, l, q H2 e2⟩
theorem ev_sum {ns : List Int} (h : EvL te σ H (ns.map V.int)) : Ev (tCB (rSum K) (tCons te tNil)) σ H (.int ns.sum) := fun H1 e Q q =>
  h H1 e _ fun p H2 _ e2 hp => ⟨p, ns, rfl, sq_of hp, q H2 e2⟩
theorem ev_maxD {ns : List Int} {d : Int} (h : EvL te σ H (ns.map V.int)) : Ev (tCKw (FsR.rMaxD K) (tCons te tNil) (tCons (tC (.int d)) tNil)) σ H (.int (FsR.maxDef d ns)) := fun H1 e Q q =>
  h H1 e _ fun p H2 _ e2 hp => ⟨p, ns, d, rfl, rfl, sq_of hp, q H2 e2⟩
theorem ev_lenT {a : Addr} {xs : List V} (h : Ev ta σ H (.ref a)) (hx : SqT K H a xs) : Ev (tCB (fun xs H Q => ∃ p ys, xs = [V.ref p] ∧ (SqL K H p ys ∨ SqT K H p ys) ∧ Q (.int ys.length) H) (tCons ta tNil)) σ H (.int (xs.length : Int)) := fun H1 e Q q =>
  h H1 e _ fun H2 e2 => ⟨a, xs, rfl, .inr (ex_t (e.trans e2) hx), q H2 e2⟩
theorem rc_isiOwn {C : Addr} {t : Value} {b : Bool} (ht : ∀ H1, Ex H H1 → TyX K H1 x t) (hk : PySem.W.kitOne K t (.ref C) = some b) : RC (rIsi K) [x, .ref C] H (.bl b) := fun H1 e Q q =>
  ⟨x, .ref C, t, .ref C, b, rfl, .own C, ht H1 e, hk, q H1 (Ex.refl H1)⟩
theorem range_ys {xs ys : List V} (hl : ys.length = xs.length) : (List.range xs.length).map (fun i => ys.getD i .non) = ys := by
  have e := range_map ys .non (fun y => y)
  rw [List.map_id', hl] at e
  exact e
/-- comprehensions, the result told by its items -/
theorem el_lcNLy {xs ys : List V} {tl : TE} {j : Nat} {vs : List Nat} (h : EvL tl σ H xs) (hz : xs.length ≤ 40000) (hw : ∀ x, wipe ((wipe σ vs).set j (some x)) vs = wipe σ vs) (hl : ys.length = xs.length)
    (he : ∀ (i : Nat) (x y : V) H1, Ex H H1 → xs[i]? = some x → ys[i]? = some y → Ev te ((wipe σ vs).set j (some x)) H1 y) : EvL (tLc (iList K tl) (gName j) tYes te vs) σ H ys := by
  have g := el_lcNL (K := K) (te := te) (j := j) (vs := vs) (t := tYes) (fun _ => true) (fun i => ys.getD i .non) h hz hw (fun _ _ _ _ _ => et_nil) (fun i x H3 e hc _ => by
    have hi := (List.getElem?_eq_some_iff.mp hc).1
    have hy : ys[i]? = some (ys.getD i .non) := by rw [List.getD_eq_getElem?_getD, List.getElem?_eq_getElem (by omega)]; rfl
    exact he i x _ H3 e hc hy)
  rw [given_all, range_ys hl] at g
  exact g
theorem el_lcLy {a : Addr} {xs ys : List V} {tl : TE} {j : Nat} {vs : List Nat} (h : Ev tl σ H (.ref a)) (hx : SqL K H a xs) (hz : xs.length ≤ 40000) (hw : ∀ x, wipe ((wipe σ vs).set j (some x)) vs = wipe σ vs) (hl : ys.length = xs.length)
    (he : ∀ (i : Nat) (x y : V) H1, Ex H H1 → xs[i]? = some x → ys[i]? = some y → Ev te ((wipe σ vs).set j (some x)) H1 y) : EvL (tLc (iList K tl) (gName j) tYes te vs) σ H ys := by
  have g := el_lcL (K := K) (te := te) (j := j) (vs := vs) (t := tYes) (fun _ => true) (fun i => ys.getD i .non) h hx hz hw (fun _ _ _ _ _ => et_nil) (fun i x H3 e hc _ => by
    have hi := (List.getElem?_eq_some_iff.mp hc).1
    have hy : ys[i]? = some (ys.getD i .non) := by rw [List.getD_eq_getElem?_getD, List.getElem?_eq_getElem (by omega)]; rfl
    exact he i x _ H3 e hc hy)
  rw [given_all, range_ys hl] at g
  exact g
theorem el_lcTy {a : Addr} {xs ys : List V} {tl : TE} {j : Nat} {vs : List Nat} (h : Ev tl σ H (.ref a)) (hx : SqT K H a xs) (hz : xs.length ≤ 40000) (hw : ∀ x, wipe ((wipe σ vs).set j (some x)) vs = wipe σ vs) (hl : ys.length = xs.length)
    (he : ∀ (i : Nat) (x y : V) H1, Ex H H1 → xs[i]? = some x → ys[i]? = some y → Ev te ((wipe σ vs).set j (some x)) H1 y) : EvL (tLc (iTup K tl) (gName j) tYes te vs) σ H ys := by
  have g := el_lcT (K := K) (te := te) (j := j) (vs := vs) (t := tYes) (fun _ => true) (fun i => ys.getD i .non) h hx hz hw (fun _ _ _ _ _ => et_nil) (fun i x H3 e hc _ => by
    have hi := (List.getElem?_eq_some_iff.mp hc).1
    have hy : ys[i]? = some (ys.getD i .non) := by rw [List.getD_eq_getElem?_getD, List.getElem?_eq_getElem (by omega)]; rfl
    exact he i x _ H3 e hc hy)
  rw [given_all, range_ys hl] at g
  exact g
end
end FsE

set_option Elab.async false
set_option linter.all false
set_option maxRecDepth 100000
set_option maxHeartbeats 2000000
namespace FsC
open PySem L2 Evl ClX FsR
/-- a def of the module that may be called by its name -/
structure CalX (P : Program) (w : World) (K : PySem.W.Frag) (mg : Str → Option Value) (base : Heap) (CX : CXT) (k : Nat) (x : Str) (sp : Sp) : Prop where
  ex : ∃ (f : Addr) (fd : FuncData) (ps : List Str), FnOk P w K mg base CX k f fd ps sp ∧ mg x = some (.ref f) ∧ PySem.W.keepIn K (.ref f) = true ∧ Binds K fd ps []
/-- C.m, a staticmethod of the class at C -/
structure StaX (P : Program) (w : World) (K : PySem.W.Frag) (mg : Str → Option Value) (base : Heap) (CX : CXT) (k : Nat) (C : Addr) (m : Str) (sp : Sp) : Prop where
  ex : ∃ (p f : Addr) (mc : Value) (fd : FuncData) (ps : List Str), CRead K C mc ∧ SMet K C mc m p f ∧ FnOk P w K mg base CX k f fd ps sp ∧ Binds K fd ps []
/-- C(..): a class that is made by its name -/
structure MakX (P : Program) (w : World) (K : PySem.W.Frag) (mg : Str → Option Value) (base : Heap) (CX : CXT) (k : Nat) (x : Str) (C : Addr) (sp : Sp) : Prop where
  ex : ∃ (f : Addr) (fd : FuncData) (ps : List Str), Mk K C f ∧ FnOk P w K mg base CX k f fd ps sp ∧ mg x = some (.ref C) ∧ Binds K fd ps []
section
variable {X : Cx} {CX : CXT} {k j : Nat} {C : Addr} {x m : Str} {sp : Sp} {E : L2.St → XK} {p pos apos : Pos} {e o : Expr} {es : List Expr} {ta : TE} {t : TA}
theorem pe_cx (c : CalX X.prog X.w X.K X.mg X.base CX k x sp) (hr : Room j X.A) (hk : k ≤ j) (hg : Gl X x) (hx : ∀ σ, PassesAt CX X σ (E σ)) (ha : PA X (e :: es) t)
    (hdb : (x == ("__debug__" : Str)) = false := by decide) (he : starEach (e :: es) X.env = (false, eval e X.env) :: starEach es X.env := by rfl) (hpl : (backTo pos (starEach es X.env)).any (·.1) = false := by rfl) :
    PE X (.Call (.Name x p) (e :: es) [] pos) (tCallS sp E t) := by
  obtain ⟨f, fd, ps, F, hm, kp, b⟩ := c.ex
  exact pe_callS F (hr.mono hk) hg hm kp b hx ha hdb he hpl
theorem pe_sx {pl : Sem Bool} (c : StaX X.prog X.w X.K X.mg X.base CX k C m sp) (hr : Room j X.A) (hk : k ≤ j) (ho : PE X o ta) (hx : ∀ σ, PassesAt CX X σ (E σ)) (ha : PA X (e :: es) t)
    (hst : starEach (e :: es) X.env = (false, eval e X.env) :: starEach es X.env := by rfl) (hpl : (backTo pos (starEach es X.env)).any (·.1) = false := by rfl)
    (ht : eval (.Call (.Attribute o m apos) (e :: es) [] pos) X.env = (do
      let ov ← eval o X.env
      standAt apos.atName
      let (f, first) ← holding [ov] (getMethod ov m pl)
      callWith pos f first (backTo pos (starEach (e :: es) X.env)) (backToKw pos (keywordEach [] X.env))) := by rfl) :
    PE X (.Call (.Attribute o m apos) (e :: es) [] pos) (tStat C sp E ta t) := by
  obtain ⟨p, f, mc, fd, ps, r, s, F, b⟩ := c.ex
  exact pe_stat (pl := pl) ho r s F (hr.mono hk) b hx ha hst hpl ht
theorem pe_sx0 {pl : Sem Bool} (c : StaX X.prog X.w X.K X.mg X.base CX k C m sp) (hr : Room j X.A) (hk : k ≤ j) (ho : PE X o ta) (hx : ∀ σ, PassesAt CX X σ (E σ))
    (ht : eval (.Call (.Attribute o m apos) [] [] pos) X.env = (do
      let ov ← eval o X.env
      standAt apos.atName
      let (f, first) ← holding [ov] (getMethod ov m pl)
      callWith pos f first (backTo pos (starEach [] X.env)) (backToKw pos (keywordEach [] X.env))) := by rfl) :
    PE X (.Call (.Attribute o m apos) [] [] pos) (tStat C sp E ta tNil) := by
  obtain ⟨p, f, mc, fd, ps, r, s, F, b⟩ := c.ex
  exact pe_stat0 (pl := pl) ho r s F (hr.mono hk) b hx ht
theorem pe_mx {E : XK} (c : MakX X.prog X.w X.K X.mg X.base CX k x C sp) (hr : Room j X.A) (hk : k + 1 ≤ j) (hg : Gl X x) (hx : Passes CX X E) (ha : PA X (e :: es) t)
    (hdb : (x == ("__debug__" : Str)) = false := by decide) (he : starEach (e :: es) X.env = (false, eval e X.env) :: starEach es X.env := by rfl) (hpl : (backTo pos (starEach es X.env)).any (·.1) = false := by rfl) :
    PE X (.Call (.Name x p) (e :: es) [] pos) (tMake C sp [] E t) := by
  obtain ⟨f, fd, ps, M, F, hm, b⟩ := c.ex
  exact pe_make M F (hr.mono hk) hg hm b .nil hx ha hdb he hpl
theorem at0 {X : Cx} {E : L2.St → XK} : ∀ σ, PassesAt CX0 X σ (E σ) := fun _ _ _ _ _ _ _ h => h.elim
/-- what a call within a def that may raise lets out -/
theorem atX {P : Program} {w : World} {X : Cx} {E : XK} (h : Passes (L2.CX P w) X E) : ∀ σ, PassesAt (L2.CX P w) X σ ((fun _ => E) σ) := fun σ => passesAt_of h σ
end
section
variable {σ : L2.St} {H : Hp} {z : V} {sp : Sp} {ta : TA} {vs : List V} {E : L2.St → XK}
theorem ev_cx (h : EvA ta σ H vs) (hs : SpV sp vs H z) : Ev (tCallS sp E ta) σ H z := fun H1 e Q q =>
  h H1 e _ fun H2 e2 => hs H2 (e.trans e2) Q (fun H3 e3 => q H3 (e2.trans e3)) (E σ)
theorem ev_sx {C : Addr} {to : TE} (ho : Ev to σ H (.ref C)) (h : EvA ta σ H vs) (hs : SpV sp vs H z) : Ev (tStat C sp E to ta) σ H z := fun H1 e Q q =>
  ho H1 e _ fun H2 e2 => ⟨rfl, h H2 (e.trans e2) _ fun H3 e3 => hs H3 ((e.trans e2).trans e3) Q (fun H4 e4 => q H4 ((e2.trans e3).trans e4)) (E σ)⟩
theorem el_cx {xs : List V} (h : EvA ta σ H vs) (hs : SpL sp vs H xs) : EvL (tCallS sp E ta) σ H xs := fun H1 e Q q =>
  h H1 e _ fun H2 e2 => hs H2 (e.trans e2) Q (fun p H3 hp e3 h3 => q p H3 (fresh_back e2 hp) (e2.trans e3) h3) (E σ)
end
end FsC

set_option Elab.async false
set_option linter.all false
set_option maxRecDepth 100000
set_option maxHeartbeats 2000000
namespace Fs
open PySem L2 Evl FsE FsC FsR
/-- the parts of a process, as its tuple holds them -/
def PartsAt (C : Addr) (H : Hp) (ps : List V) : Pr → Prop
  | .choice os => OfsAt C H ps os
  | .new n k r => ∃ b, ps = [.str n, .int k, .ref b] ∧ PrAt C H b r
  | .cond l r y n => ∃ b c, ps = [l.v, r.v, .ref b, .ref c] ∧ PrAt C H b y ∧ PrAt C H c n
  | .call n ops => ∃ u, ps = [.str n, .ref u] ∧ H u = some (.tup (ops.map Opd.v))
theorem PartsAt.ex {C : Addr} {H H' : Hp} {ps : List V} {p : Pr} (e : Ex H H') (h : PartsAt C H ps p) : PartsAt C H' ps p := by
  cases p with
  | choice os => exact OfsAt.ex e h
  | new n k r =>
    obtain ⟨b, h1, h2⟩ := h
    exact ⟨b, h1, h2.ex e⟩
  | cond l r y n =>
    obtain ⟨b, c, h1, h2, h3⟩ := h
    exact ⟨b, c, h1, h2.ex e, h3.ex e⟩
  | call n ops =>
    obtain ⟨u, h1, h2⟩ := h
    exact ⟨u, h1, e _ _ h2⟩
theorem PrAt.mk {C : Addr} {H : Hp} {a t : Addr} {ps : List V} {p : Pr} (h1 : InsAt C H a p.kind t p.depth p.size) (h2 : H t = some (.tup ps)) (h3 : PartsAt C H ps p) : PrAt C H a p := by
  cases p with
  | choice os =>
    unfold PrAt
    unfold Pr.kind Pr.depth Pr.size at h1
    exact ⟨t, ps, h1, h2, h3⟩
  | new n k r =>
    unfold PrAt
    unfold Pr.kind Pr.depth Pr.size at h1
    obtain ⟨b, rfl, h4⟩ := h3
    exact ⟨t, b, h1, h2, h4⟩
  | cond l r y n =>
    unfold PrAt
    unfold Pr.kind Pr.depth Pr.size at h1
    obtain ⟨b, c, rfl, h4, h5⟩ := h3
    exact ⟨t, b, c, h1, h2, h4, h5⟩
  | call n ops =>
    unfold PrAt
    unfold Pr.kind Pr.depth Pr.size at h1
    obtain ⟨u, rfl, h4⟩ := h3
    exact ⟨t, u, h1, h2, h4⟩
theorem PrAt.out {C : Addr} {H : Hp} {a : Addr} {p : Pr} (h : PrAt C H a p) : ∃ t ps, InsAt C H a p.kind t p.depth p.size ∧ H t = some (.tup ps) ∧ PartsAt C H ps p := by
  cases p with
  | choice os =>
    unfold PrAt at h
    obtain ⟨t, ps, h1, h2, h3⟩ := h
    exact ⟨t, ps, by unfold Pr.kind Pr.depth Pr.size; exact h1, h2, h3⟩
  | new n k r =>
    unfold PrAt at h
    obtain ⟨t, b, h1, h2, h3⟩ := h
    exact ⟨t, _, by unfold Pr.kind Pr.depth Pr.size; exact h1, h2, b, rfl, h3⟩
  | cond l r y n =>
    unfold PrAt at h
    obtain ⟨t, b, c, h1, h2, h3, h4⟩ := h
    exact ⟨t, _, by unfold Pr.kind Pr.depth Pr.size; exact h1, h2, b, c, rfl, h3, h4⟩
  | call n ops =>
    unfold PrAt at h
    obtain ⟨t, u, h1, h2, h3⟩ := h
    exact ⟨t, _, by unfold Pr.kind Pr.depth Pr.size; exact h1, h2, u, rfl, h3⟩
/-! ### what is contained directly -/
def Ofs.rests : Ofs → List Pr
  | .nil => []
  | .cons _ _ _ _ _ r os => r :: os.rests
def Pr.inner : Pr → List Pr
  | .choice os => os.rests
  | .new _ _ r => [r]
  | .cond _ _ y n => [y, n]
  | .call _ _ => []
/-- a list of processes, by their addresses -/
def InnAt (C : Addr) (H : Hp) : List V → List Pr → Prop
  | [], [] => True
  | x :: xs, p :: ps => (∃ a, x = .ref a ∧ PrAt C H a p) ∧ InnAt C H xs ps
  | _, _ => False
theorem InnAt.ex {C : Addr} {H H' : Hp} (e : Ex H H') : ∀ {xs : List V} {ps : List Pr}, InnAt C H xs ps → InnAt C H' xs ps
  | [], [], _ => True.intro
  | x :: xs, p :: ps, ⟨⟨a, h1, h2⟩, h3⟩ => ⟨⟨a, h1, h2.ex e⟩, InnAt.ex e h3⟩
  | [], _ :: _, h => h.elim
  | _ :: _, [], h => h.elim
theorem InnAt.get {C : Addr} {H : Hp} : ∀ {xs : List V} {ps : List Pr} {x : V}, InnAt C H xs ps → x ∈ xs → ∃ a p, x = .ref a ∧ PrAt C H a p ∧ p ∈ ps
  | [], _, _, _, hx => nomatch hx
  | y :: xs, [], _, h, _ => h.elim
  | y :: xs, p :: ps, x, ⟨⟨a, h1, h2⟩, h3⟩, hx => by
    rcases List.mem_cons.mp hx with rfl | hx
    · exact ⟨a, p, h1, h2, List.mem_cons_self⟩
    · obtain ⟨b, q, k1, k2, k3⟩ := InnAt.get h3 hx
      exact ⟨b, q, k1, k2, List.mem_cons_of_mem _ k3⟩
theorem InnAt.length {C : Addr} {H : Hp} : ∀ {xs : List V} {ps : List Pr}, InnAt C H xs ps → xs.length = ps.length
  | [], [], _ => rfl
  | x :: xs, p :: ps, ⟨_, h⟩ => congrArg (· + 1) (InnAt.length h)
  | [], _ :: _, h => h.elim
  | _ :: _, [], h => h.elim
theorem Ofs.rests_len : ∀ os : Ofs, os.rests.length = os.len
  | .nil => rfl
  | .cons _ _ _ _ _ r os => congrArg (· + 1) (Ofs.rests_len os)
/-- the greatest depth, the sum of the sizes -/
theorem Ofs.sum_eq : ∀ os : Ofs, os.sum = (os.rests.map Pr.size).sum
  | .nil => rfl
  | .cons _ _ _ _ _ r os => by
    unfold Ofs.sum Ofs.rests
    rw [List.map_cons, List.sum_cons, Ofs.sum_eq os]
mutual
theorem Pr.depth_pos : ∀ p : Pr, 1 ≤ p.depth
  | .choice os => by
    unfold Pr.depth
    have := Ofs.depth_nn os
    omega
  | .new _ _ r => by
    unfold Pr.depth
    have := Pr.depth_pos r
    omega
  | .cond _ _ y n => by
    unfold Pr.depth
    have := Pr.depth_pos y
    have := Pr.depth_pos n
    omega
  | .call _ _ => by
    unfold Pr.depth
    omega
theorem Ofs.depth_nn : ∀ os : Ofs, 0 ≤ os.depth
  | .nil => by
    unfold Ofs.depth
    omega
  | .cons _ _ _ _ _ r os => by
    unfold Ofs.depth
    have := Pr.depth_pos r
    omega
end
theorem maxFrom_ge : ∀ (ys : List Int) (y : Int), maxFrom y ys = max y (maxFrom 0 ys) ∨ (y < 0)
  | [], y => by
    unfold maxFrom
    simp only [List.foldl_nil]
    omega
  | z :: zs, y => by
    have h1 := maxFrom_ge zs (max y z)
    have h2 := maxFrom_ge zs (max 0 z)
    unfold maxFrom at *
    simp only [List.foldl_cons]
    omega
theorem Ofs.depth_eq : ∀ os : Ofs, maxDef 0 (os.rests.map Pr.depth) = os.depth
  | .nil => rfl
  | .cons _ _ _ _ _ r os => by
    unfold Ofs.rests Ofs.depth
    rw [List.map_cons]
    show maxFrom r.depth (os.rests.map Pr.depth) = max r.depth os.depth
    have ih := Ofs.depth_eq os
    have hr := Pr.depth_pos r
    cases hr2 : os.rests.map Pr.depth with
    | nil =>
      rw [hr2] at ih
      have e0 : (0 : Int) = os.depth := ih
      unfold maxFrom
      simp only [List.foldl_nil]
      omega
    | cons y ys =>
      rw [hr2] at ih
      have e0 : maxFrom y ys = os.depth := ih
      have hy : 1 ≤ y := by
        have : y ∈ os.rests.map Pr.depth := by rw [hr2]; exact List.mem_cons_self
        obtain ⟨q, _, rfl⟩ := List.mem_map.mp this
        exact Pr.depth_pos q
      have h1 := maxFrom_ge ys y
      have h2 := maxFrom_ge ys (max r.depth y)
      show maxFrom (max r.depth y) ys = _
      omega
theorem Pr.depth_eq (p : Pr) : 1 + maxDef 0 (p.inner.map Pr.depth) = p.depth := by
  cases p with
  | choice os =>
    unfold Pr.inner Pr.depth
    rw [Ofs.depth_eq]
  | new n k r =>
    unfold Pr.depth
    rfl
  | cond l r y n =>
    unfold Pr.depth
    rfl
  | call n ops =>
    unfold Pr.depth
    rfl
def Pr.own : Pr → Int
  | .choice os => max 1 (os.len : Int)
  | _ => 1
theorem Pr.size_eq (p : Pr) : p.own + (p.inner.map Pr.size).sum = p.size := by
  cases p with
  | choice os =>
    unfold Pr.inner Pr.size Pr.own
    rw [Ofs.sum_eq]
  | new n k r =>
    unfold Pr.size Pr.own Pr.inner
    simp
  | cond l r y n =>
    unfold Pr.size Pr.own Pr.inner
    simp
  | call n ops =>
    unfold Pr.size Pr.own Pr.inner
    simp
theorem OfsAt.len {C : Addr} {H : Hp} : ∀ {os : Ofs} {ps : List V}, OfsAt C H ps os → ps.length = os.len
  | .nil, ps, h => by
    unfold OfsAt at h
    rw [h]
    rfl
  | .cons c s m op ns r os, ps, h => by
    unfold OfsAt at h
    obtain ⟨o, u, b, qs, h1, _, _, _, h5⟩ := h
    rw [h1]
    exact congrArg (· + 1) (OfsAt.len h5)
/-- the rests of the offers -/
theorem OfsAt.rests {C : Addr} {H : Hp} : ∀ {os : Ofs} {ps : List V}, OfsAt C H ps os → ∃ rs : List V, rs.length = ps.length ∧ InnAt C H rs os.rests ∧
    ∀ (i : Nat) (x : V), ps[i]? = some x → ∃ (o : Addr) (c : Str) (s m : Int) (op : Opd) (u : Addr) (y : V), x = .ref o ∧ rs[i]? = some y ∧ H o = some (.tup [.str c, .int s, .int m, op.v, .ref u, y])
  | .nil, ps, h => by
    unfold OfsAt at h
    subst h
    exact ⟨[], rfl, True.intro, fun i x hx => by simp at hx⟩
  | .cons c s m op ns r os, ps, h => by
    unfold OfsAt at h
    obtain ⟨o, u, b, qs, rfl, h2, h3, h4, h5⟩ := h
    obtain ⟨rs, k1, k2, k3⟩ := OfsAt.rests h5
    refine ⟨.ref b :: rs, congrArg (· + 1) k1, ⟨⟨b, rfl, h4⟩, k2⟩, fun i x hx => ?_⟩
    cases i with
    | zero =>
      have e : V.ref o = x := by simpa using hx
      subst e
      exact ⟨o, c, s, m, op, u, .ref b, rfl, rfl, h2⟩
    | succ i =>
      obtain ⟨o', c', s', m', op', u', y', z1, z2, z3⟩ := k3 i x (by simpa using hx)
      exact ⟨o', c', s', m', op', u', y', z1, by simpa using z2, z3⟩
/-- rs: what a process with these parts contains directly -/
def InnOf (C : Addr) (H : Hp) (ps rs : List V) : Pr → Prop
  | .choice os => rs.length = ps.length ∧ InnAt C H rs os.rests ∧
    ∀ (i : Nat) (x : V), ps[i]? = some x → ∃ (o : Addr) (c : Str) (s m : Int) (op : Opd) (u : Addr) (y : V), x = .ref o ∧ rs[i]? = some y ∧ H o = some (.tup [.str c, .int s, .int m, op.v, .ref u, y])
  | .new n k r => ∃ b, ps = [.str n, .int k, .ref b] ∧ rs = [.ref b] ∧ PrAt C H b r
  | .cond l r y n => ∃ b c, ps = [l.v, r.v, .ref b, .ref c] ∧ rs = [.ref b, .ref c] ∧ PrAt C H b y ∧ PrAt C H c n
  | .call n ops => ∃ u, ps = [.str n, .ref u] ∧ rs = [] ∧ H u = some (.tup (ops.map Opd.v))
theorem InnOf.ex {C : Addr} {H H' : Hp} {ps rs : List V} {p : Pr} (e : Ex H H') (h : InnOf C H ps rs p) : InnOf C H' ps rs p := by
  cases p with
  | choice os =>
    obtain ⟨h1, h2, h3⟩ := h
    refine ⟨h1, h2.ex e, fun i x hx => ?_⟩
    obtain ⟨o, c, s, m, op, u, y, z1, z2, z3⟩ := h3 i x hx
    exact ⟨o, c, s, m, op, u, y, z1, z2, e _ _ z3⟩
  | new n k r =>
    obtain ⟨b, h1, h2, h3⟩ := h
    exact ⟨b, h1, h2, h3.ex e⟩
  | cond l r y n =>
    obtain ⟨b, c, h1, h2, h3, h4⟩ := h
    exact ⟨b, c, h1, h2, h3.ex e, h4.ex e⟩
  | call n ops =>
    obtain ⟨u, h1, h2, h3⟩ := h
    exact ⟨u, h1, h2, e _ _ h3⟩
theorem PartsAt.inn {C : Addr} {H : Hp} {ps : List V} {p : Pr} (h : PartsAt C H ps p) : ∃ rs, InnOf C H ps rs p := by
  cases p with
  | choice os =>
    obtain ⟨rs, h1, h2, h3⟩ := OfsAt.rests h
    exact ⟨rs, h1, h2, h3⟩
  | new n k r =>
    obtain ⟨b, h1, h2⟩ := h
    exact ⟨[.ref b], b, h1, rfl, h2⟩
  | cond l r y n =>
    obtain ⟨b, c, h1, h2, h3⟩ := h
    exact ⟨[.ref b, .ref c], b, c, h1, rfl, h2, h3⟩
  | call n ops =>
    obtain ⟨u, h1, h2⟩ := h
    exact ⟨[], u, h1, rfl, h2⟩
theorem InnOf.at {C : Addr} {H : Hp} {ps rs : List V} {p : Pr} (h : InnOf C H ps rs p) : InnAt C H rs p.inner := by
  cases p with
  | choice os => exact h.2.1
  | new n k r =>
    obtain ⟨b, _, rfl, h3⟩ := h
    exact ⟨⟨b, rfl, h3⟩, True.intro⟩
  | cond l r y n =>
    obtain ⟨b, c, _, rfl, h3, h4⟩ := h
    exact ⟨⟨b, rfl, h3⟩, ⟨c, rfl, h4⟩, True.intro⟩
  | call n ops =>
    obtain ⟨u, _, rfl, _⟩ := h
    exact True.intro
theorem InnAt.at_ {C : Addr} {H : Hp} : ∀ {xs : List V} {ps : List Pr} {i : Nat} {x : V}, InnAt C H xs ps → xs[i]? = some x → ∃ a p, x = .ref a ∧ PrAt C H a p ∧ ps[i]? = some p
  | [], _, _, _, _, hx => by simp at hx
  | y :: xs, [], _, _, h, _ => h.elim
  | y :: xs, p :: ps, 0, x, ⟨⟨a, h1, h2⟩, h3⟩, hx => by
    have e : y = x := by simpa using hx
    subst e
    exact ⟨a, p, h1, h2, rfl⟩
  | y :: xs, p :: ps, i + 1, x, ⟨_, h3⟩, hx => by
    obtain ⟨b, q, k1, k2, k3⟩ := InnAt.at_ (i := i) h3 (by simpa using hx)
    exact ⟨b, q, k1, k2, by simpa using k3⟩
end Fs

set_option Elab.async false
set_option linter.all false
set_option maxRecDepth 100000
set_option maxHeartbeats 4000000
/-! An own error over ValueError, by a class between: its __init__ calls super().__init__ with a fixed text, then stores its one argument as the field field. -/
namespace FsB
open PySem PySem.W PySem.Calls PyProof.Rows PySem.HandSPX
abbrev eS : Scope := { kind := .function, names := [(PySem.Str.ofString "self", .local), (PySem.Str.ofString "field", .local), (PySem.Str.ofString "__class__", .free), (PySem.Str.ofString "super", .globalImplicit)], isGenerator := false, isCoroutine := false, more := [] }
abbrev eA (p1 p2 : Pos) : Arguments := { posonlyargs := [], args := [{ arg := "self", annotation := none, pos := p1 }, { arg := "field", annotation := none, pos := p2 }], vararg := none, kwonlyargs := [], kw_defaults := [], kwarg := none, defaults := [] }
abbrev eB (msg : Expr) (p0 p1 p2 p3 p4 p5 p6 p7 p8 : Pos) : List Stmt := [.Expr (.Call (.Attribute (.Call (.Name "super" p0) [] [] p1) "__init__" p2) [msg] [] p3) p4, .Assign [.Attribute (.Name "self" p5) "field" p6] (.Name "field" p7) p8]
/-- the message -/
abbrev eM (z : Str) (q0 : Pos) : Expr := .Constant (.str z) 0 q0
abbrev mroVE : List Value := [.type "ValueError", .type "Exception", .type "BaseException", .type "object"]
/-- what the written part says of the class at C, and of its __init__, at fI -/
structure ErrTxt (prog : Program) (K : Frag) (mg : Str → Option Value) (x : Str) (C fI : Addr) : Prop where
  gC : mg x = some (.ref C)
  cls : ∃ nm q N bs bm sn sub ab col dd k0 k1 k2 k3 k5, K.lookup C = some (excClassObj nm q C N bs bm true sn sub ab col dd k0 k1 k2 k3 k5 "ValueError.__new__") ∧ refsVE bm = true
  ei : excInitIn K C mroVE "ValueError.__new__" = true
  sa : findIn K (.ref C) "__setattr__" = some (some (.builtin "object.__setattr__"))
  noN : findIn K (.ref C) "field" = some none
  iC : findIn K (.ref C) "__init__" = some (some (.ref fI))
  tC : typeIn K (.ref fI) = some (.type "function")
  kC : keepIn K (.ref C) = true
  exC : subIn K (.ref C) (.type "BaseException") = some true
  veC : subIn K (.ref C) (.type "ValueError") = some true
  tyC : typeIn K (.ref C) = some (.type "type")
  slf : mroIn K C (.ref C) = some true
  sup : ks_superIn K C C "__init__" = some (some (.builtin "ValueError.__init__"))
  opq : nsIn K cStatics "thirdparty.any" = some none
  gs : mg "super" = none
  top : (prog.main.scope.names.lookup ("super" : Str)).isSome = false
  fn : ∃ (oc : Value) (od an : Option Addr) (kV doc pm ct : Value) (osl : Array (Option Value)) (qual : Str) (cda cc : Addr) (ccl cl : Value) (cdd cld : Option Addr) (ccs csl : Array (Option Value)) (vs : Array Value) (file : Str) (tf : Tok) (zM : Str) (p1 p2 q0 r0 r1 r2 r3 r4 r5 r6 r7 r8 : Pos),
    K.lookup fI = some ⟨oc, od, .func (ksFn "__init__" qual (eA p1 p2) (eB (eM zM q0) r0 r1 r2 r3 r4 r5 r6 r7 r8) eS .none kV doc pm an (.ref cda) ct cc), osl⟩ ∧ codeIn K (.ref cda) qual = true ∧
    K.lookup cda = some ⟨ccl, cdd, .fields vs, ccs⟩ ∧ vs[2]? = some (.str file tf) ∧ ((prog.main.file : Str) == file) = true ∧ K.lookup cc = some ⟨cl, cld, .cell (some (.ref C)), csl⟩ ∧ zM.length ≤ 1000 ∧ (r2.endLine == r3.line) = true
theorem call_line {o : Expr} {name : Str} {apos pos : Pos} {a : Expr} {env : Env} (hp : (apos.endLine == pos.line) = true) (hs : starEach [a] env = (false, eval a env) :: starEach [] env) : eval (.Call (.Attribute o name apos) [a] [] pos) env = (do
      let ov ← attributeBase o name env (eval o env)
      standAt apos.atName
      let (f, first) ← holding [ov] (getMethod ov name (do return (← importBound o env).getD true))
      callWith pos f first (backTo pos (starEach [a] env)) []) := by
  show (do
      let ov ← attributeBase o name env (eval o env)
      standAt apos.atName
      methodCall o name apos pos env ov 1 (backTo pos (starEach [a] env)) []) = _
  have e : methodCallForm 1 (backTo pos (starEach [a] env)) [] = true := by
    rw [hs]
    rfl
  unfold methodCall
  rw [e]
  unfold methodCallPos calleeOf
  rw [hp]
  simp only [Bool.not_true, Bool.false_or, if_true, pure_bind]
/-- what __init__ leaves of a fresh exception at x, over the heap h -/
structure BtEnd (h h' : Heap) (x C dx t1 : Addr) (v : Value) : Prop where
  keep : ∀ b o, h.get? b = some o → h'.get? b = some o
  obj : h'.get? x = some { cls := .ref C, dict := some dx, data := .fields #[.ref t1, .none, .none, .none, .bool false, .none] }
  dbig : h.objs.size ≤ dx
  dne : dx ≠ x
  ns : h'.Ns1 dx (fun y => if y = "field" then some v else none)
theorem str_len2 (a b : Str) : (a ++ b).length = a.length + b.length := by
  show (a.cps ++ b.cps).size = _
  rw [Array.size_append]
  rfl
theorem len1 (v : Value) : [v].length ≤ sizeLine := by
  rw [sizeLine_eq]
  exact (by decide : 1 ≤ 16777216)
section
variable {prog : Program} {w : World} {A : Around} {E : Value → Shared → Prop} {R : Result → Shared → Prop} {s : Shared} {K : Frag} {mg : Str → Option Value} {x0 : Str} {C fI : Addr}
theorem bt_init (T : ErrTxt prog K mg x0 C fI) {hp : Heap} {x t0 : Addr} {v : Value} (X : K.In hp) (G : hp.Ns mainGlobals mg) (Bl : ∃ mb, hp.Ns builtinsNs mb ∧ mb "super" = some (.type "super")) (hlim : s.heap.NoLimit)
    (k : ∀ b o, hp.get? b = some o → s.heap.get? b = some o) (hsz : hp.objs.size ≤ s.heap.objs.size) (hx : s.heap.get? x = some (excO C t0)) (hxn : hp.get? x = none) (hroom : A.depth < recursionLimit)
    (hq : ∀ h' tk' dx t1, BtEnd hp h' x C dx t1 v → R (.ok (.ret .none)) { s with heap := h', toks := tk' }) :
    codeAny (model prog w) A (.call (.ref fI) ⟨[.ref x, v], []⟩) R s := by
  obtain ⟨oc, od, an, kV, doc, pm, ct, osl, qual, cda, cc, ccl, cl, cdd, cld, ccs, csl, vs, file, tf, zM, p1, p2, q0, r0, r1, r2, r3, r4, r5, r6, r7, r8, ho, hcd, hcode, hvs, hfile, hcell, hM, hline⟩ := T.fn
  obtain ⟨nm, q, N, bs, bm, sn, sub, ab, col, dd, k0, k1, k2, k3, k5, hC, hbm⟩ := T.cls
  obtain ⟨mb, hb, hmb⟩ := Bl
  have hcl : clsIn K C = some { name := nm, bases := bs, mro := .ref C :: bm, ns := N, qualname := q, hasDict := true, slotNames := sn, subclasses := sub, abstract := ab, collection := col, hasDel := false } := by unfold clsIn; rw [hC] <;> rfl
  have Xs : K.In s.heap := X.keeps k
  have noc : ∀ y ∈ eS.names, y.2 ≠ .cell := by decide +kernel
  have locs : ∀ y ∈ [(("self" : Str), Value.ref x), ("field", v)], eS.names.lookup y.1 = some .local := fun y hy => by
    rcases List.mem_cons.mp hy with rfl | hy
    · rfl
    · rw [List.mem_singleton.mp hy]
      rfl
  refine ks_codeAny_call_defAt (body := eB (eM zM q0) r0 r1 r2 r3 r4 r5 r6 r7 r8) (binds := [("self", .ref x), ("field", v)]) hroom (Xs _ _ ho) rfl hlim (codeRec_of Xs hcd) rfl (BindsTo.of_eq (by first | rfl | with_unfolding_all rfl)) noc locs (fun h₁ hns hk₁ => ?_) rfl rfl rfl
  have Fr1 : Fr hp s.heap.objs.size h₁ (fun y => [(("self" : Str), Value.ref x), ("field", v)].reverse.lookup y) := ⟨hns, fun b o e => hk₁ b o (k b o e), hsz⟩
  have N1 : News hp s.heap.objs.size h₁ [(x, excObj C t0 none .none)] := fun p hp' => by
    rw [List.mem_singleton.mp hp']
    exact ⟨hk₁ _ _ hx, Nat.ne_of_lt (Heap.lt_size hx), hxn⟩
  show _root_.PySem.wpAt (model prog w) _ (.func _ (ksEnv qual eS s.heap.objs.size fI (.ref cda) cc)) (execs (eB (eM zM q0) r0 r1 r2 r3 r4 r5 r6 r7 r8) (ksEnv qual eS s.heap.objs.size fI (.ref cda) cc)) _ _ _
  refine ks_wpAt_execs_cons (ks_wpAt_Expr_any (ks_wpAt_MethodCall ?_ (call_line hline rfl)))
  generalize hE : (fun e s' => wpAny (model prog w) _ (leaving _ e) (fun x s'' => R (Except.error e) s'') (fun e' s'' => R (Except.error e') s'') s') = EE
  have X1 : K.In h₁ := X.keeps Fr1.keep
  -- super()
  refine ks_wpAt_super_base (env := ksEnv qual eS s.heap.objs.size fI (.ref cda) cc) rfl rfl rfl rfl (X1 _ _ ho) rfl rfl rfl (X1 _ _ hcode) rfl hvs hfile T.top ?_
  refine ks_loadName_global rfl rfl (loadGlobal_builtin (env := ksEnv qual eS s.heap.objs.size fI (.ref cda) cc) (G.keeps Fr1.keep) T.gs (hb.keeps Fr1.keep) hmb ⟨rfl, ?_⟩)
  refine wpAny_loadName_free rfl rfl rfl ⟨_, X1 _ _ hcell, rfl⟩ ?_
  refine wpAny_loadName_local (v := .ref x) rfl rfl hns rfl ?_
  refine ks_wpAny_isType_cls (X1 _ _ hC) rfl ⟨rfl, ?_⟩
  refine ks_wpAny_call_super (X1 _ _ hC) rfl (hk₁ _ _ hx) rfl (fun c z => by cases z) (looks_mroIn X1 T.slf) (fun h2 hso k2 => ?_)
  obtain ⟨F2, N2, l2⟩ := ks_newsPush (s := ⟨h₁, s.gens, s.drawn, s.toks + 2, s.os⟩) Fr1 N1 rfl hso k2
  -- its __init__, bound
  refine kxs_method kxs_ValueError F2 X N2 (List.mem_cons_self ..) (InstAt.of_exc0 (c2 := .none) (t := t0) N2 (List.mem_cons_of_mem _ (List.mem_cons_self ..))) T.opq T.sup T.veC rfl (fun u h3 F3 N3 l3 => ?_)
  refine kxs_callWith1 N3 (List.mem_cons_self ..) ?_ rfl rfl
  refine Calls.spliced_cons ?_
  show wpAny _ _ (eval (eM zM q0) (ksEnv qual eS s.heap.objs.size fI (.ref cda) cc)) _ _ _
  refine Calls.Constant_str ?_
  refine Calls.spliced_nil ⟨kxs_at N3 (List.mem_cons_self ..), ?_⟩
  have nx1 : h₁.objs.size ≠ x := fun z => Nat.lt_irrefl _ (z ▸ l2 _ (List.mem_cons_self ..) : x < x)
  have nx2 : u ≠ x := fun z => Nat.lt_irrefl _ (z ▸ l3 _ (List.mem_cons_of_mem _ (List.mem_cons_self ..)) : x < x)
  refine kxs_call F3 X N3 PySem.F.excBase_ValueError T.ei (List.mem_cons_self ..) (.tail nx2 (.tail nx1 (.head fun p hp' => by cases hp'))) (len1 _) (fun t' h4 F4 N4 l4 => ?_)
  -- self.field = field
  have X4 : K.In h4 := X.keeps F4.keep
  have hx4 : h4.get? x = some (excO C t') := (N4 (x, excObj C t' none .none) (List.mem_cons_of_mem _ (List.mem_cons_of_mem _ (List.mem_cons_of_mem _ (List.mem_cons_self ..))))).1
  refine wpAt_of_wpAny (wpAny_execs_cons (plainObj_wpAny_Assign_Attribute ?_))
  refine wpAny_Name (wpAny_loadName_local (v := v) rfl rfl F4.ns rfl ?_) rfl
  refine wpAny_Name (wpAny_loadName_local (v := .ref x) rfl rfl F4.ns rfl ?_) rfl
  refine set_plain X4 (ox := excO C t') (od := none) ⟨hx4, rfl, rfl, trivial⟩ T.sa ?_
  refine exc_osa X4 hx4 hcl (show refsVE (.ref C :: bm) = true from hbm) rfl T.noN (fun h5 tk5 dx k5 dn dne hx5 hn5 => ?_)
  have zz : s.heap.objs.size < h4.objs.size := F4.ns.lt
  exact wpAny_execs_nil (hq h5 tk5 dx t' ⟨fun b o e => k5 b o (fun z => by rw [z, hxn] at e; cases e) (F4.keep b o e), hx5, Nat.le_trans hsz (Nat.le_trans (Nat.le_of_lt zz) dn), dne, hn5⟩)
end
end FsB

set_option Elab.async false
set_option linter.all false
set_option maxRecDepth 100000
set_option maxHeartbeats 4000000
/-! set(xs), xs a list or a tuple of texts: how many there are tells whether they all differ. -/
namespace FsT
open PySem PySem.Spec PyProof.Rows
/-- c of the first i texts differ; all of them just when none stands twice -/
structure Few (xs : List Str) (i c : Nat) : Prop where
  le : c ≤ i
  all : c = i ↔ (xs.take i).Nodup
theorem nodup_snoc {l : List Str} {z : Str} : (l ++ [z]).Nodup ↔ l.Nodup ∧ z ∉ l := by
  rw [List.nodup_append]
  constructor
  · intro h
    exact ⟨h.1, fun hz => h.2.2 z hz z (List.mem_singleton.mpr rfl) rfl⟩
  · intro h
    refine ⟨h.1, by simp, fun a ha b hb e => ?_⟩
    rw [List.mem_singleton.mp hb] at e
    exact h.2 (e ▸ ha)
theorem Few.step {xs : List Str} {i c : Nat} {z : Str} (f : Few xs i c) (hz : xs[i]? = some z) : Few xs (i + 1) (if decide (z ∈ xs.take i) = true then c else c + 1) := by
  have e : xs.take (i + 1) = xs.take i ++ [z] := by
    rw [List.take_add_one, hz]
    rfl
  have h1 := f.le
  have h2 := f.all
  by_cases h : z ∈ xs.take i
  · rw [if_pos (decide_eq_true h)]
    refine ⟨by omega, ⟨fun q => absurd q (by omega), fun q => ?_⟩⟩
    rw [e, nodup_snoc] at q
    exact absurd h q.2
  · rw [if_neg (by rw [decide_eq_false h]; decide)]
    refine ⟨by omega, ?_⟩
    rw [e, nodup_snoc]
    constructor
    · intro q
      exact ⟨h2.mp (by omega), h⟩
    · intro q
      have := h2.mpr q.1
      omega
section
variable {P : Program} {w : World} {A : Around} {R : Result → Shared → Prop} {I S : Addr} {fp wr : List Addr} {G : Array GenState → Array GenState → Prop} {n : Nat} {Pv : Nat → Value → Prop} {St : Nat → Shared → Prop}
/-- one text after the other into the set at S -/
theorem tx_loop (W : WalksS P w A.in1 I fp wr G n Pv St) (hS : S ∉ fp) {xs : List Str} (hn : n ≤ 2000) (hv : ∀ i v, Pv i v → ∃ z t, xs[i]? = some z ∧ v = .str z t) (R0 : ∀ s' c, Moved (S :: wr) G s0 s' → Few xs n c → s'.heap.SetOf (PySem.strKind P w) S (fun k => decide (k ∈ xs.take n)) c → R (.ok (.ret .none)) s') :
    ∀ (m i : Nat) (s : Shared), i + m = n → St i s → Moved (S :: wr) G s0 s → (∃ c, Few xs i c ∧ s.heap.SetOf (PySem.strKind P w) S (fun k => decide (k ∈ xs.take i)) c) → codeAny (model P w) A (.builtin "set.update.loop" ⟨[.ref S, .ref I], []⟩) R s := by
  have out : S ∉ wr := fun z => hS (W.sub _ z)
  have up : ∀ b ∈ wr, b ∈ S :: wr := fun b => List.mem_cons_of_mem _
  have stay : ∀ {u u' : Shared} {q : Str → Bool} {c : Nat}, Moved wr G u u' → u.heap.SetOf (PySem.strKind P w) S q c → u'.heap.SetOf (PySem.strKind P w) S q c := fun mv ⟨o, es, ep, t, ho, r⟩ => ⟨o, es, ep, t, mv.heap S o out ho, r⟩
  intro m
  induction m with
  | zero =>
    intro i s him hst mv0 ⟨c, fw, so⟩
    have hi : i = n := by omega
    subst hi
    refine codeAny_builtin PyProof.Rows.F.entry_set_update_loop ?_
    rw [Around.under_plainId F.plain_set_update_loop]
    show wpAny _ _ (pyNext (.ref I) >>= fun _ => _) _ _ s
    exact wpAny_bind (W.done s _ _ hst fun s' mv => wpAny_pure (R0 s' c (Moved.trans W.gtrans mv0 (mv.mono up)) fw (stay mv so)))
  | succ m ih =>
    intro i s him hst mv0 ⟨c, fw, so⟩
    refine codeAny_builtin PyProof.Rows.F.entry_set_update_loop ?_
    rw [Around.under_plainId F.plain_set_update_loop]
    show wpAny _ _ (pyNext (.ref I) >>= fun _ => _) _ _ s
    refine wpAny_bind (W.item i s _ _ (by omega) hst fun v s1 hp hst1 mv => ?_)
    obtain ⟨z, t, hz, rfl⟩ := hv i v hp
    show wpAny _ _ (holding [Value.str z t] (setAdd S (.str z t)) >>= fun _ => _) _ _ s1
    unfold setAdd
    refine wpAny_bind (wpAny_holding (wpAny_holding (wpAny_bind ((PySem.strKind P w).pyHash (strKind_is P w z t) ?_))))
    have c0 := fw.le
    have so1 := stay mv so
    refine wpAny_setAddHashed_of (s := { s1 with toks := s1.toks + 1 }) (strKind_is P w z t) rfl so1 (by show c + 1 < 4096; omega) fun h' but so2 => ?_
    have so3 : h'.SetOf (PySem.strKind P w) S (fun k => decide (k ∈ xs.take (i + 1))) (if decide (z ∈ xs.take i) = true then c else c + 1) := SetOf_congr so2 (fun k => by
      rw [List.take_add_one, hz]
      simp [List.mem_append]) rfl
    refine wpAny_pure ⟨plainId_quiet F.plain_set_update_loop _, ih (i + 1) _ (by omega) (W.frame (i + 1) s1 h' _ hst1 (Nat.le_succ _) fun b hb o ho => ?_) ?_ ⟨_, fw.step hz, so3⟩⟩
    · exact (but.2 b fun z => hS (z ▸ hb)).trans ho
    · refine Moved.trans W.gtrans mv0 ((mv.mono up).then_heap (Nat.le_succ _) fun b o hb ho => ?_)
      exact (but.2 b fun z => hb (z ▸ List.mem_cons_self ..)).trans ho
end
section
variable {P : Program} {w : World} {A : Around} {E : Value → Shared → Prop} {s : Shared}
/-- what set() reads: a list, a tuple -/
structure Feed (P : Program) (w : World) (T iT : String) (items : Array Value) (nl : Nat) (od : Option Addr) (sl : Array (Option Value)) (l : Addr) : Prop where
  s1 : isSubtype (Value.type T) (Value.type "set") = pure false
  s2 : isSubtype (Value.type T) (Value.type "frozenset") = pure false
  nd : (Value.type T == Value.type "dict") = false
  it : ∀ (A' : Around) (E' : Value → Shared → Prop) (u : Shared) (Q' : Value → Shared → Prop), u.heap.get? l = some { cls := .type T, dict := od, data := .seq items nl, slots := sl } →
    Q' (.ref u.heap.objs.size) { u with heap := u.heap.push { cls := .type iT, data := .fields #[.ref l, .int 0 0] } } → wpAny (model P w) A' (pyIter (.ref l)) Q' E' u
  wk : ∀ (A' : Around) (I : Addr), A'.handled = none → l ≠ I → ∃ St : Nat → Shared → Prop, WalksS P w A' I [I, l] [I] (fun a b => b = a) items.size (fun i v => items[i]? = some v) St ∧
    ∀ u : Shared, u.heap.get? I = some { cls := .type iT, data := .fields #[.ref l, .int 0 0] } → u.heap.get? l = some { cls := .type T, dict := od, data := .seq items nl, slots := sl } → St 0 u
theorem feed_list {items : Array Value} {nl : Nat} {od : Option Addr} {sl : Array (Option Value)} {l : Addr} : Feed P w "list" "list_iterator" items nl od sl l :=
  ⟨PySem.F.sub_list_set, PySem.F.sub_list_frozenset, by decide, fun _ _ _ _ h q => wpAny_pyIter_list ⟨_, h, rfl, nl, rfl⟩ q, fun A' I ha ne => ⟨_, (Walks.list ha I l ne items).toS, fun u h1 h2 => ⟨⟨_, h1, rfl, rfl⟩, ⟨_, h2, rfl, nl, rfl⟩⟩⟩⟩
theorem feed_tup {items : Array Value} {nl : Nat} {od : Option Addr} {sl : Array (Option Value)} {l : Addr} : Feed P w "tuple" "tuple_iterator" items nl od sl l :=
  ⟨PySem.F.sub_tuple_set, PySem.F.sub_tuple_frozenset, by decide, fun _ _ _ _ h q => wpAny_pyIter_tuple ⟨_, h, rfl, nl, rfl⟩ q, fun A' I ha ne => ⟨_, (Walks.tuple ha I l ne items).toS, fun u h1 h2 => ⟨⟨_, h1, rfl, rfl⟩, ⟨_, h2, rfl, nl, rfl⟩⟩⟩⟩
/-- set(l) -/
theorem tx_call {T iT : String} {items : Array Value} {nl : Nat} {od : Option Addr} {sl : Array (Option Value)} {l : Addr} {xs : List Str} {Q : Value → Shared → Prop} (D : Feed P w T iT items nl od sl l) (ha : A.handled = none)
    (ho : s.heap.get? l = some { cls := .type T, dict := od, data := .seq items nl, slots := sl }) (hx : StrsAre items.toList xs) (hl : xs.length ≤ 2000)
    (hq : ∀ h' tk c, Few xs xs.length c → h'.SetOf (PySem.strKind P w) s.heap.objs.size (fun k => decide (k ∈ xs)) c → (∀ b o, s.heap.get? b = some o → h'.get? b = some o) → Q (.ref s.heap.objs.size) { s with heap := h', toks := tk }) :
    wpAny (model P w) A (call (.type "set") [.ref l]) Q E s := by
  have cs := PySem.F.called_set
  obtain ⟨cc, rest, mro0⟩ := cs.mro
  have made0 := cs.made
  have sub0 := cs.sub
  refine wpAny_call (codeAny_of_tree ?_)
  show wpAny _ _ (callAny (.type "set") { pos := [.ref l] }) _ _ _
  refine wpAny_pure ⟨Code.quiet_builtin _ (by decide +kernel), codeAny_builtin PySem.F.entry_type_call ?_⟩
  rw [Around.under_plain (weight_type_call_type "set" [Value.ref l] []) rfl]
  have nt0 := cs.notType
  have cr0 := cs.canCreate
  have tc0 := PySem.F.typeCall_set_1 (Value.ref l)
  repeat (any_goals (first | assumption | wp_step))
  refine codeAny_mono (code_set_new_1 (Value.ref l) (E := E) (Q₁ := fun v u => ∃ b : Bool, v = .ref s.heap.objs.size ∧ u = { s with heap := s.heap.push { cls := .type "set", data := .set #[] 0 (.fresh 0 0 b) } }) (fun b => ⟨b, rfl, rfl⟩)) (fun r u hr => ?_)
  match r, hr with
  | .error _, hr => exact hr
  | .ok .next, hr => exact hr.elim
  | .ok .brk, hr => exact hr.elim
  | .ok .cont, hr => exact hr.elim
  | .ok (.ret v), hr =>
    obtain ⟨b, rfl, rfl⟩ := hr
    have at0 : (s.heap.push { cls := .type "set", data := .set #[] 0 (.fresh 0 0 b) }).get? s.heap.objs.size = some { cls := .type "set", data := .set #[] 0 (.fresh 0 0 b) } := Heap.get?_push_size _ rfl
    have ty0 : Shared.TypeIs { s with heap := s.heap.push { cls := .type "set", data := .set #[] 0 (.fresh 0 0 b) } } (.ref s.heap.objs.size) "set" := ⟨_, at0, rfl⟩
    have look0 := cs.init.lookup
    have bind0 := cs.init.bind (.ref s.heap.objs.size)
    repeat (any_goals (first | assumption | wp_step))
    refine codeAny_mono (codeAny_call_builtin (R := wants (fun v u => v = .none ∧ ∃ h' tk c, u = { s with heap := h', toks := tk } ∧ Few xs xs.length c ∧ h'.SetOf (PySem.strKind P w) s.heap.objs.size (fun k => decide (k ∈ xs)) c ∧ ∀ b o, s.heap.get? b = some o → h'.get? b = some o) E)
      cs.init.plain PySem.F.entry_set_init (check_set_init_1 ty0 ?_)) (fun r2 u2 hr2 => ?_)
    · have ho1 : (s.heap.push { cls := .type "set", data := .set #[] 0 (.fresh 0 0 b) }).get? l = some { cls := .type T, dict := od, data := .seq items nl, slots := sl } := Heap.get?_push_of_some _ ho
      have d1 := D.s1
      have d2 := D.s2
      have d3 := D.nd
      unfold Builtin.«set.__init__» noKeywords Builtin.Frozenset.updateFrom
      generalize hI : pyIter = IT
      wp_walk
      subst hI
      have nx : items.size = xs.length := by
        have e := StrsAre.len_eq hx
        rw [Array.length_toList] at e
        exact e
      have ls : l < s.heap.objs.size := Heap.lt_size ho
      have sz1 : (s.heap.push { cls := .type "set", data := .set #[] 0 (.fresh 0 0 b) }).objs.size = s.heap.objs.size + 1 := Heap.size_push ..
      have n1 : l ≠ s.heap.objs.size + 1 := Nat.ne_of_lt (Nat.lt_succ_of_lt ls)
      have n2 : s.heap.objs.size ≠ s.heap.objs.size + 1 := Nat.ne_of_lt (Nat.lt_succ_self _)
      have n3 : s.heap.objs.size ≠ l := (Nat.ne_of_lt ls).symm
      refine D.it _ _ _ _ ho1 (wpAny_bind (wpAny_runValue ?_))
      have at1 : ((s.heap.push { cls := .type "set", data := .set #[] 0 (.fresh 0 0 b) }).push { cls := .type iT, data := .fields #[.ref l, .int 0 0] }).get? s.heap.objs.size = some { cls := .type "set", data := .set #[] 0 (.fresh 0 0 b) } := Heap.get?_push_of_some _ at0
      obtain ⟨St, wk, st0⟩ := D.wk A.in1.in1.in1 (s.heap.push { cls := .type "set", data := .set #[] 0 (.fresh 0 0 b) }).objs.size (by simp [ha]) (by rw [sz1]; exact n1)
      refine tx_loop (s0 := { s with heap := (s.heap.push { cls := .type "set", data := .set #[] 0 (.fresh 0 0 b) }).push { cls := .type iT, data := .fields #[.ref l, .int 0 0] } }) wk (by
          simp only [List.mem_cons, List.not_mem_nil, or_false, not_or]
          exact ⟨by rw [sz1]; exact n2, n3⟩) (xs := xs) (by omega) (fun i v hv => ?_) (fun u c mv fw so => ?_) items.size 0 _ (Nat.zero_add _) (st0 _ (Heap.get?_push_size _ rfl) (Heap.get?_push_of_some _ ho1)) ⟨fun _ _ _ e => e, rfl, rfl, rfl, Nat.le_refl _⟩
        ⟨0, ⟨Nat.le_refl _, by simp⟩, SetOf_congr ((setObjOf_fresh (knd := PySem.strKind P w) b).setOf at1 (by show 0 < 4096; decide)) (fun k => by simp) rfl⟩
      · obtain ⟨t, e⟩ := SS.strs_at hx i v (by rw [Array.getElem?_toList]; exact hv)
        have hi : i < xs.length := by
          rw [← nx]
          exact (Array.getElem?_eq_some_iff.mp hv).1
        exact ⟨xs[i], t, List.getElem?_eq_getElem hi, by rw [e, List.getD_eq_getElem?_getD, List.getElem?_eq_getElem hi]; rfl⟩
      · obtain ⟨h2, g2, d2, t2, o2⟩ := u
        obtain rfl : g2 = s.gens := mv.gens
        obtain rfl : d2 = s.drawn := mv.drawn
        obtain rfl : o2 = s.os := mv.os
        rw [nx] at fw so
        rw [List.take_length] at so
        refine wpAny_pure ?_
        show wpAny _ _ (ret Value.none) _ _ _
        refine wpAny_pure ⟨rfl, h2, t2, c, rfl, fw, so, fun d o e => ?_⟩
        have dl : d < s.heap.objs.size := Heap.lt_size e
        exact mv.heap d o (by
          simp only [List.mem_cons, List.not_mem_nil, or_false, not_or]
          exact ⟨Nat.ne_of_lt dl, by rw [sz1]; exact Nat.ne_of_lt (Nat.lt_succ_of_lt dl)⟩) (Heap.get?_push_of_some _ (Heap.get?_push_of_some _ e))
    · match r2, hr2 with
      | .error _, hr2 => exact hr2
      | .ok .next, hr2 => exact hr2.elim
      | .ok .brk, hr2 => exact hr2.elim
      | .ok .cont, hr2 => exact hr2.elim
      | .ok (.ret v), hr2 =>
        obtain ⟨rfl, h', tk, c, rfl, fw, so, kp⟩ := hr2
        repeat (any_goals (first | assumption | wp_step))
        exact hq h' tk c fw so kp
end
end FsT

set_option Elab.async false
set_option linter.all false
set_option maxRecDepth 100000
set_option maxHeartbeats 2000000
namespace FsR
open PySem PySem.Spec PyProof.Rows L2 FsT
/-- len(set(xs)), xs a list or a tuple of texts -/
def tLenTx (K : PySem.W.Frag) (ta : TE) : TE := fun σ H Q => ta σ H fun x H1 => ∃ (l : Addr) (xs : List Str), x = .ref l ∧ (SqL K H1 l (xs.map V.str) ∨ SqT K H1 l (xs.map V.str)) ∧ xs.length ≤ 2000 ∧ ∀ c, Few xs xs.length c → Q (.int (c : Nat)) H1
theorem pe_lenTx {X : Cx} {a : Expr} {ta : TE} {p p2 q pos : Pos} (hc : X.calm = true) (hg : Gl X "len") (hm : X.mg "len" = none) (hg2 : Gl X "set") (hm2 : X.mg "set" = none) (ha : PE X a ta)
    (na : starEach [a] X.env = (false, eval a X.env) :: starEach [] X.env := by rfl) : PE X (.Call (.Name "len" p) [.Call (.Name "set" p2) [a] [] q] [] pos) (tLenTx X.K ta) := by
  refine ⟨fun pins s σ H Q I h => Call_ (ld_blt I hg hm PySem.boot_len (callWith_builtin1 (args_cons (Call_ (ld_blt I hg2 hm2 boot_set (callWith_type1 (args_cons (thn (ha.run pins s σ H _ I h) fun v u ⟨x, H1, J, rx, l, xs, ex, hq, hl, k⟩ => args_nil ?_) na) na rfl))) rfl) rfl rfl))⟩
  subst ex
  obtain rfl : v = Value.ref l := rx
  have fin : ∀ (h' : Heap) (tk c : Nat), Few xs xs.length c → h'.SetOf (PySem.strKind X.prog X.w) u.heap.objs.size (fun k => decide (k ∈ xs)) c → (∀ b o, u.heap.get? b = some o → h'.get? b = some o) →
      wpAny (model X.prog X.w) X.A (spliced (backTo pos (starEach [] X.env))) (fun vs u2 => wpAny (model X.prog X.w) X.A (call (.builtin "len") (Value.ref u.heap.objs.size :: vs)) (EP X pins σ Q) X.xe u2) X.xe { u with heap := h', toks := tk } := fun h' tk c fw so kp => by
    refine args_nil ?_
    obtain ⟨o, es, ep, t, ho, hex, hd, _, _, hsm, hf, hn⟩ := so
    have J2 : Inv X pins σ H1 { u with heap := h', toks := tk } := J.kept kp
    have c0 := fw.le
    refine call_len_set ho hex hd hf (by rw [hn]; omega) ⟨.int (c : Nat), H1, J2.tok _, ⟨_, by rw [hn]⟩, k c fw⟩
  rcases hq with hq | hq
  · obtain ⟨its, r, pl, hz⟩ := J.list hq
    obtain ⟨⟨oc, od, dt, sl⟩, ho, e1, n, e2⟩ := pl.isList
    dsimp only at e1 e2
    subst e1 e2
    exact tx_call feed_list (J.ok.hd hc) ho (by simpa using strsAre_of r) hl fin
  · obtain ⟨its, r, ⟨⟨oc, od, dt, sl⟩, ho, e1, n, e2⟩, hz⟩ := J.tuple hq
    dsimp only at e1 e2
    subst e1 e2
    exact tx_call feed_tup (J.ok.hd hc) ho (by simpa using strsAre_of r) hl fin
end FsR

set_option Elab.async false
set_option linter.all false
set_option maxRecDepth 100000
set_option maxHeartbeats 2000000
/-! a op b, both instances of one class of the program that defines the operator. -/
namespace FsR
open PySem PySem.Spec PyProof.Rows L2 ClX
structure OpM (K : PySem.W.Frag) (C : Addr) (op : Operator) (g : Addr) : Prop where
  fst : PySem.W.selfFirst K C = true
  at_ : PySem.W.findIn K (.ref C) (PySem.dunder op.info.2) = some (some (.ref g))
  fn : PySem.W.isFn K (.ref g) = true
/-- a op b -/
def tOwn (C : Addr) (sp : Sp) (E : L2.St → XK) (ta tb : TE) : TE := fun σ H Q => ta σ H fun x H1 => tb σ H1 fun y H2 => ∃ (a b dx dy : Addr) (fs gs : List (Str × V)), x = .ref a ∧ y = .ref b ∧ H2 a = some (.ins C dx fs) ∧ H2 b = some (.ins C dy gs) ∧ sp [.ref a, .ref b] H2 Q (E σ)
theorem no_notimpl {y : V} (r : RelV y Value.notImplemented) : False := by
  cases y <;> first | (obtain ⟨t, e⟩ := r; cases e; done) | (cases r; done)
theorem pe_own {X : Cx} {CX : CXT} {k : Nat} {C g : Addr} {fd : FuncData} {ps : List Str} {sp : Sp} {E : L2.St → XK} {ea eb : Expr} {op : Operator} {pos : Pos} {ta tb : TE} (ha : PE X ea ta) (hb : PE X eb tb) (M : OpM X.K C op g) (F : FnOk X.prog X.w X.K X.mg X.base CX k g fd ps sp) (hr : Room k X.A) (hd : Binds X.K fd ps [])
    (hx : ∀ σ, PassesAt CX X σ (E σ)) : PE X (.BinOp ea op eb pos) (tOwn C sp E ta tb) := by
  refine ⟨fun pins s σ H Q I h => wpAny_BinOp (binT ha hb I h fun v u s2 x y H2 I2 rx ry q => ?_)⟩
  obtain ⟨a, b, dx, dy, fs, gs, rfl, rfl, h1, h2, q⟩ := q
  obtain rfl : v = Value.ref a := rx
  obtain rfl : u = Value.ref b := ry
  obtain ⟨_, O1, _, _, _, _⟩ := ins_get I2.hok h1
  obtain ⟨_, O2, _, _, _, _⟩ := ins_get I2.hok h2
  obtain ⟨_, i1, _⟩ := O1.look
  obtain ⟨_, i2, _⟩ := O2.look
  obtain ⟨m, fr⟩ := I2.fr
  refine PySem.W.binop_K fr I2.ok.mod.kin i1 i2.type M.fst M.at_ M.fn (wpAny_mono (run_fnS (us := [.ref a, .ref b]) (vs := [.ref a, .ref b]) F hr hd (hx σ) I2 (.cons rfl (.cons rfl .nil)) q) (fun w s' hw => ?_) fun _ _ z => z)
  obtain ⟨y, H', J, r, q'⟩ := hw
  have fin : EP X pins σ Q w s' := ⟨y, H', J, r, q'⟩
  cases w with
  | notImplemented => exact no_notimpl r
  | _ => exact fin
end FsR

set_option Elab.async false
set_option linter.all false
set_option maxRecDepth 100000
set_option maxHeartbeats 2000000
namespace Fs
open PySem L2 Evl FsE FsC
def topS (i : Nat) : Stmt := PySem.Challenge.pw_fullseats_k04_depth_and_size.main.body.getD i (.Pass ⟨0, 0, 0, 0⟩)
/-! ### names -/
def lettersS : Str := "abcdefghijklmnopqrstuvwxyz"
def digitsS : Str := "0123456789"
def reservedV : List V := [.str "stop", .str "new", .str "if", .str "then", .str "else", .str "put", .str "get", .str "channel", .str "at", .str "define", .str "start"]
def signOk (c : Nat) : Bool := decide (c ∈ lettersS.cps.toList) || decide (c ∈ digitsS.cps.toList)
def nameS (z : Str) : Bool := decide (1 ≤ z.length) && decide (z.length ≤ 8) && decide (z.cps.toList.headD 0 ∈ lettersS.cps.toList) && !inV (.str z) reservedV && z.cps.toList.all signOk
def nameV : V → Bool
  | .str z => nameS z
  | _ => false
/-- an operand's kind of value: an int, or a text of a length within the line -/
def OpV : V → Prop
  | .int _ => True
  | .str z => z.length ≤ 40000
  | _ => False
def spPred (f : V → Bool) : Sp := fun vs H Q _ => ∃ v, vs = [v] ∧ OpV v ∧ RetV (.bl (f v)) H Q
def GC (mg : Str → Option Value) (x : Str) (v : V) : Prop := ∃ u, mg x = some u ∧ RelV v u
structure BasT (K : PySem.W.Frag) (mg : Str → Option Value) : Prop where
  letters : GC mg "LETTERS" (.str lettersS)
  digits : GC mg "DIGITS" (.str digitsS)
  nlen : GC mg "NAME_LENGTH" (.int 8)
  reserved : ∃ a, mg "RESERVED" = some (.ref a) ∧ ∀ H, SqT K H a reservedV
  toolong : GC mg "TOO_LONG" (.int (10 ^ 30))
  seats : GC mg "MOST_SEATS" (.int 4)
  isinst : mg "isinstance" = none
  str : mg "str" = none
  int : mg "int" = none
  bool : mg "bool" = none
  len : mg "len" = none
  all : mg "all" = none
theorem str_len (z : Str) : z.length = z.cps.toList.length := by
  unfold Str.length
  rw [Array.length_toList]
section
variable {P : Program} {w : World} {K : PySem.W.Frag} {mg : Str → Option Value} {base : Heap}
theorem scName : FnScope ["text", "sign"] ["text"] (defScope (topS 7)) := ⟨rfl, rfl, rfl, by decide +kernel, rfl, by decide +kernel, by decide +kernel⟩
theorem ok_is_name {f : Addr} {fd : FuncData} (F : Fun K "is_name" "is_name" (topS 7) f fd) (T : BasT K mg) : FnOk P w K mg base CX0 1 f fd ["text"] (spPred nameV) := by
  refine F.ok scName (fun vs H Q E h => ?_) (fun cdv A outer s H vs Q E hr h => ?_)
  · obtain ⟨v, rfl, _⟩ := h
    rfl
  · obtain ⟨v, rfl, hv, k⟩ := h
    obtain ⟨aR, gR, hR⟩ := T.reserved
    refine ⟨_, pss_cons (ps_if (PW.pt (pw_or (pt_not (pt_val (pe_callB call_isi (by rfl) T.isinst (by decide +kernel) (pa_cons (pv 0) (pa_cons (pe_bltn (v := .ty "str") (by rfl) T.str (by decide +kernel) rfl) pa_nil)))))
        (pw_or1 (pt_not (pt_chain op_le op_le pe_int (pe_callB call_len_str (by rfl) T.len PySem.boot_len (pa_cons (pv 0) pa_nil)) (C8.pe_gc (by rfl) T.nlen)))))) (pss_one (ps_ret pe_bl)) pss_nil)
      (pss_cons (ps_if (PW.pt (pw_or (pt_cmpR op_notIn_sign (pe_ix ix_str (pv 0) pe_int (fun _ _ => rfl)) (C8.pe_gc (by rfl) T.letters) (by rfl))
        (pw_or1 (pt_cmpR op_in_seq (pv 0) (pe_glob (v := .ref aR) (by rfl) gR rfl) (by rfl))))) (pss_one (ps_ret pe_bl)) pss_nil)
      (pss_one (ps_ret (pe_callB (cr_all rfl) (by rfl) T.all (by decide +kernel) (pa_cons
        (pe_lc (own := [("sign", 1)]) (g := gName 1) (tt := tYes) rfl scName.nd (pi_str (pv 0)) (blkOk_by (own := [("sign", 1)]) (N := ["text", "sign"]) (sc := defScope (topS 7)) (by decide +kernel))
          (fun _ _ _ _ _ => pg_name (i := 1) scName.nd rfl (Or.inl rfl)) (fun _ _ _ _ _ => pts_nil)
          (fun _ _ _ _ _ => pe_or (pe_cmpR op_in_sign (pv 1) (C8.pe_gc (by rfl) T.letters) (by rfl)) (pe_one (pe_cmpR op_in_sign (pv 1) (C8.pe_gc (by rfl) T.digits) (by rfl))))) pa_nil))))), ?_⟩
    cases v with
    | int i =>
      refine q_when (b := true) (et_is (et_or (et_not (et_B (ev_cb (ea_cons (ev_var rfl) (ea_cons ev_c ea_nil)) (rc_isInt (b := false) (by decide +kernel))))) (fun q => nomatch q) (b := true)) rfl) (fun _ H1 e1 => ?_) (fun q => nomatch q)
      exact s_ret ev_c fun H2 e2 => k H2 (e1.trans e2)
    | str z =>
      have hz : z.length ≤ 40000 := hv
      have hz2 : z.length ≤ sizeLine := sz_of (by omega)
      refine q_when (b := !(decide ((1 : Int) ≤ (z.length : Nat)) && decide (((z.length : Nat) : Int) ≤ 8))) (et_is (et_or (et_not (et_B (ev_cb (ea_cons (ev_var rfl) (ea_cons ev_c ea_nil)) (rc_isStr (b := true) (by decide +kernel)))))
        (fun _ => et_not (et_test (ev_chain ev_c (ev_cb (ea_cons (ev_var rfl) ea_nil) (rc_lenS hz2)) rv_I0 (fun _ => ev_c) (fun _ => rv_I0))))) rfl) (fun hb H1 e1 => ?_) (fun hb H1 e1 => ?_)
      · refine s_ret ev_c fun H2 e2 => ?_
        have e : nameV (.str z) = false := by
          show nameS z = false
          unfold nameS
          have : (decide (1 ≤ z.length) && decide (z.length ≤ 8)) = false := by
            have hb' : ((z.length : Nat) : Int) < 1 ∨ 8 < ((z.length : Nat) : Int) := by simpa using hb
            simp only [Bool.and_eq_false_iff, decide_eq_false_iff_not]
            omega
          rw [this]
          rfl
        have q := k H2 (e1.trans e2)
        rw [e] at q
        exact q
      · have hb' : 1 ≤ z.length ∧ z.length ≤ 8 := by
          have : ((1 : Int) ≤ (z.length : Nat) ∧ ((z.length : Nat) : Int) ≤ 8) := by simpa using hb
          omega
        obtain ⟨c, r, hc⟩ : ∃ c r, z.cps.toList = c :: r := by
          cases e : z.cps.toList with
          | nil =>
            have := str_len z
            rw [e] at this
            simp at this
            omega
          | cons c r => exact ⟨c, r, rfl⟩
        have h0 : atI z.cps.toList 0 = some c := atI_nat (j := 0) (by rw [hc]; rfl)
        refine q_when (b := !decide (c ∈ lettersS.cps.toList) || inV (.str z) reservedV) (et_or (et_test (ev_op (ev_op (ev_var rfl) ev_c (rv_ixS (by omega) h0)) ev_c rv_niSign))
          (fun _ => et_test (ev_op (ev_var rfl) ev_c (rv_isT (hR _) rfl (by decide +kernel))))) (fun hb2 H2 e2 => ?_) (fun hb2 H2 e2 => ?_)
        · refine s_ret ev_c fun H3 e3 => ?_
          have e : nameV (.str z) = false := by
            show nameS z = false
            unfold nameS
            rw [hc]
            have : (decide (c ∈ lettersS.cps.toList) && !inV (.str z) reservedV) = false := by
              rw [Bool.or_eq_true] at hb2
              rcases hb2 with hb2 | hb2
              · have : decide (c ∈ lettersS.cps.toList) = false := by simpa using hb2
                rw [this]
                rfl
              · rw [hb2]
                simp
            show (decide (1 ≤ z.length) && decide (z.length ≤ 8) && decide (c ∈ lettersS.cps.toList) && !inV (.str z) reservedV && (c :: r).all signOk) = false
            rw [Bool.and_assoc (decide (1 ≤ z.length) && decide (z.length ≤ 8)), this]
            simp
          have q := k H3 ((e1.trans e2).trans e3)
          rw [e] at q
          exact q
        · refine s_ret (ev_all (bs := z.cps.toList.map signOk) (by
            rw [List.map_map]
            exact el_lcSm (V.bl ∘ signOk) (ev_var rfl) (by omega) (fun _ => rfl) (fun c H3 _ _ => ev_orV (ev_op (ev_var rfl) ev_c rv_inSign) (fun _ => ev_op (ev_var rfl) ev_c rv_inSign)))) fun H3 e3 => ?_
          have e : nameV (.str z) = (z.cps.toList.map signOk).all id := by
            show nameS z = _
            unfold nameS
            rw [hc]
            rw [Bool.or_eq_false_iff] at hb2
            have a1 : decide (c ∈ lettersS.cps.toList) = true := by simpa using hb2.1
            show (decide (1 ≤ z.length) && decide (z.length ≤ 8) && decide (c ∈ lettersS.cps.toList) && !inV (.str z) reservedV && (c :: r).all signOk) = _
            rw [decide_eq_true hb'.1, decide_eq_true hb'.2, a1, hb2.2, List.all_map]
            rfl
          have q := k H3 ((e1.trans e2).trans e3)
          rw [e] at q
          exact q
    | _ => exact hv.elim
/-! ### integers, operands, seats -/
def intV : V → Bool
  | .int _ => true
  | _ => false
def shortV : V → Bool
  | .int i => decide (-(10 ^ 30) < i) && decide (i < 10 ^ 30)
  | _ => false
def operandV (v : V) : Bool := shortV v || nameV v
def seatsV : V → Bool
  | .int i => decide (1 ≤ i) && decide (i ≤ 4)
  | _ => false
theorem sp_pred {f : V → Bool} {v : V} {H : Hp} (h : OpV v) : SpV (spPred f) [v] H (.bl (f v)) := fun H1 _ Q q E => ⟨v, rfl, h, fun H2 e => q H2 e⟩
theorem scInt : FnScope ["value"] ["value"] (defScope (topS 9)) := ⟨rfl, rfl, rfl, by decide +kernel, rfl, by decide +kernel, by decide +kernel⟩
theorem ok_is_int {f : Addr} {fd : FuncData} (F : Fun K "is_int" "is_int" (topS 9) f fd) (T : BasT K mg) : FnOk P w K mg base CX0 1 f fd ["value"] (spPred intV) := by
  refine F.ok scInt (fun vs H Q E h => ?_) (fun cdv A outer s H vs Q E hr h => ?_)
  · obtain ⟨v, rfl, _⟩ := h
    rfl
  · obtain ⟨v, rfl, hv, k⟩ := h
    refine ⟨_, pss_one (ps_ret (pe_and (pe_callB call_isi (by rfl) T.isinst (by decide +kernel) (pa_cons (pv 0) (pa_cons (pe_bltn (v := .ty "int") (by rfl) T.int (by decide +kernel) rfl) pa_nil)))
      (pe_one (pe_not (pe_callB call_isi (by rfl) T.isinst (by decide +kernel) (pa_cons (pv 0) (pa_cons (pe_bltn (v := .ty "bool") (by rfl) T.bool (by decide +kernel) rfl) pa_nil))))))), ?_⟩
    cases v with
    | int i => exact s_ret (ev_andV (a := true) (b := true) (ev_cb (ea_cons (ev_var rfl) (ea_cons ev_c ea_nil)) (rc_isInt (by decide +kernel)))
        (fun _ => ev_notV (a := false) (ev_cb (ea_cons (ev_var rfl) (ea_cons ev_c ea_nil)) (rc_isInt (by decide +kernel))))) k
    | str z => exact s_ret (ev_andV (a := false) (b := true) (ev_cb (ea_cons (ev_var rfl) (ea_cons ev_c ea_nil)) (rc_isStr (by decide +kernel))) (fun q => nomatch q)) k
    | _ => exact hv.elim
theorem scShort : FnScope ["value"] ["value"] (defScope (topS 10)) := ⟨rfl, rfl, rfl, by decide +kernel, rfl, by decide +kernel, by decide +kernel⟩
theorem ok_is_short {f : Addr} {fd : FuncData} (F : Fun K "is_short" "is_short" (topS 10) f fd) (T : BasT K mg) (GI : CalX P w K mg base CX0 1 "is_int" (spPred intV)) : FnOk P w K mg base CX0 2 f fd ["value"] (spPred shortV) := by
  refine F.ok scShort (fun vs H Q E h => ?_) (fun cdv A outer s H vs Q E hr h => ?_)
  · obtain ⟨v, rfl, _⟩ := h
    rfl
  · obtain ⟨v, rfl, hv, k⟩ := h
    refine ⟨_, pss_one (ps_ret (pe_and (pe_cx (E := fun _ => E0) GI hr (by decide) (by rfl) at0 (pa_cons (pv 0) pa_nil))
      (pe_one (pe_chain op_lt op_lt (pe_un un_neg (C8.pe_gc (by rfl) T.toolong)) (pv 0) (C8.pe_gc (by rfl) T.toolong))))), ?_⟩
    cases v with
    | int i => exact s_ret (ev_andV (a := true) (ev_cx (ea_cons (ev_var rfl) ea_nil) (sp_pred hv)) (fun _ => ev_chain (ev_un ev_c ru_neg) (ev_var rfl) rv_I0 (fun _ => ev_c) (fun _ => rv_I0))) k
    | str z => exact s_ret (ev_andV (a := false) (b := true) (ev_cx (ea_cons (ev_var rfl) ea_nil) (sp_pred hv)) (fun q => nomatch q)) k
    | _ => exact hv.elim
theorem scOperand : FnScope ["part"] ["part"] (defScope (topS 11)) := ⟨rfl, rfl, rfl, by decide +kernel, rfl, by decide +kernel, by decide +kernel⟩
theorem ok_is_operand {f : Addr} {fd : FuncData} (F : Fun K "is_operand" "is_operand" (topS 11) f fd) (GS : CalX P w K mg base CX0 2 "is_short" (spPred shortV)) (GN : CalX P w K mg base CX0 1 "is_name" (spPred nameV)) :
    FnOk P w K mg base CX0 3 f fd ["part"] (spPred operandV) := by
  refine F.ok scOperand (fun vs H Q E h => ?_) (fun cdv A outer s H vs Q E hr h => ?_)
  · obtain ⟨v, rfl, _⟩ := h
    rfl
  · obtain ⟨v, rfl, hv, k⟩ := h
    refine ⟨_, pss_one (ps_ret (pe_or (pe_cx (E := fun _ => E0) GS hr (by decide) (by rfl) at0 (pa_cons (pv 0) pa_nil)) (pe_one (pe_cx (E := fun _ => E0) GN hr (by decide) (by rfl) at0 (pa_cons (pv 0) pa_nil))))), ?_⟩
    exact s_ret (ev_orV (ev_cx (ea_cons (ev_var rfl) ea_nil) (sp_pred hv)) (fun _ => ev_cx (ea_cons (ev_var rfl) ea_nil) (sp_pred hv))) k
theorem scSeats : FnScope ["count"] ["count"] (defScope (topS 12)) := ⟨rfl, rfl, rfl, by decide +kernel, rfl, by decide +kernel, by decide +kernel⟩
theorem ok_is_seats {f : Addr} {fd : FuncData} (F : Fun K "is_seats" "is_seats" (topS 12) f fd) (T : BasT K mg) (GI : CalX P w K mg base CX0 1 "is_int" (spPred intV)) : FnOk P w K mg base CX0 2 f fd ["count"] (spPred seatsV) := by
  refine F.ok scSeats (fun vs H Q E h => ?_) (fun cdv A outer s H vs Q E hr h => ?_)
  · obtain ⟨v, rfl, _⟩ := h
    rfl
  · obtain ⟨v, rfl, hv, k⟩ := h
    refine ⟨_, pss_one (ps_ret (pe_and (pe_cx (E := fun _ => E0) GI hr (by decide) (by rfl) at0 (pa_cons (pv 0) pa_nil))
      (pe_one (pe_chain op_le op_le pe_int (pv 0) (C8.pe_gc (by rfl) T.seats))))), ?_⟩
    cases v with
    | int i => exact s_ret (ev_andV (a := true) (ev_cx (ea_cons (ev_var rfl) ea_nil) (sp_pred hv)) (fun _ => ev_chain ev_c (ev_var rfl) rv_I0 (fun _ => ev_c) (fun _ => rv_I0))) k
    | str z => exact s_ret (ev_andV (a := false) (b := true) (ev_cx (ea_cons (ev_var rfl) ea_nil) (sp_pred hv)) (fun q => nomatch q)) k
    | _ => exact hv.elim
end
end Fs

set_option Elab.async false
set_option linter.all false
set_option maxRecDepth 100000
set_option maxHeartbeats 2000000
namespace Fs
open PySem L2 Evl FsE FsC FsR
/-! ### what raises: an own error of one argument -/
/-- X(e) made, to be raised: its own dict d, new, holds the argument under f -/
def tMkE (C : Addr) (f : Str) (ta : TA) : L2.St → Hp → XK → Prop := fun σ H Q => ta σ H fun vs H1 => ∃ z : Str, vs = [.str z] ∧ z.length ≤ 1000 ∧ ∀ d, H1 d = none → Q (.ref C) (some d) (upd H1 d (.xd [(f, .str z)]))
/-- the class x at C makes such errors -/
def RaisesX (P : Program) (w : World) (K : PySem.W.Frag) (mg : Str → Option Value) (base : Heap) (x : Str) (C : Addr) (f : Str) (k : Nat) : Prop :=
  ∀ (X : Cx), X.prog = P → X.w = w → X.K = K → X.mg = mg → X.base = base → Room k X.A → ∀ (a : Expr) (ta : TA) (p pos : Pos), PA X [a] ta → Gl X x → starEach (a :: []) X.env = (false, eval a X.env) :: starEach [] X.env → (backTo pos (starEach [] X.env)).any (·.1) = false →
    PMk X (.Call (.Name x p) [a] [] pos) (tMkE C f ta)
/-- what the text has told of the terms' module -/
structure TerT (K : PySem.W.Frag) (mg : Str → Option Value) (C CB : Addr) : Prop where
  cl : Cls K C
  nK : NoAttr K C "kind"
  nP : NoAttr K C "parts"
  nD : NoAttr K C "depth"
  nS : NoAttr K C "size"
  mgC : mg "Process" = some (.ref C)
  kStr : PySem.W.kitOne K (.type "str") (.ref C) = some false
  kInt : PySem.W.kitOne K (.type "int") (.ref C) = some false
  kTup : PySem.W.kitOne K (.type "tuple") (.ref C) = some false
  ha : PySem.W.findIn K (.ref C) "__class__" = some (some (.builtin "object.__class__"))
  hn : PySem.W.specialIn K (.builtin "object.__class__") "__get__" = some (some (.builtin "getset_descriptor.__get__"))
  htk : PySem.W.takesIn K (.builtin "object.__class__") = some true
  hm : PySem.W.mroIn K C (.type "object") = some true
  sum : mg "sum" = none
  max : mg "max" = none
  tuple : mg "tuple" = none
  depth : GC mg "MOST_DEPTH" (.int 20)
  size : GC mg "MOST_SIZE" (.int 400)
theorem kOwn {K : PySem.W.Frag} {C : Addr} : PySem.W.kitOne K (.ref C) (.ref C) = some true := by
  unfold PySem.W.kitOne
  rw [if_pos (beq_self_eq_true _)]
/-- what is raised: the field f -/
def Bad (CB : Addr) (f : Str) (H : Hp) (E : XK) : Prop := ∀ (d : Addr) (H' : Hp), Ex H H' → H d = none → H' d = some (.xd [("field", .str f)]) → E (.ref CB) (some d) H'
theorem Bad.ex {CB : Addr} {f : Str} {H H' : Hp} {E : XK} (e : Ex H H') (h : Bad CB f H E) : Bad CB f H' E := fun d H2 e2 hd h2 => h d H2 (e.trans e2) (fresh_back e hd) h2
/-- demand(allowed, field) -/
def spDemand (CB : Addr) : Sp := fun vs H Q E => ∃ (b : Bool) (f : Str), vs = [.bl b, .str f] ∧ f.length ≤ 1000 ∧ (b = true → RetV .non H Q) ∧ (b = false → Bad CB f H E)
section
variable {P : Program} {w : World} {K : PySem.W.Frag} {mg : Str → Option Value} {base : Heap} {C CB : Addr}
theorem scDemand : FnScope ["allowed", "field"] ["allowed", "field"] (defScope (topS 22)) := ⟨rfl, rfl, rfl, by decide +kernel, rfl, by decide +kernel, by decide +kernel⟩
theorem ok_demand {f : Addr} {fd : FuncData} {k : Nat} (F : Fun K "demand" "demand" (topS 22) f fd) (R : RaisesX P w K mg base "BadTerm" CB "field" k) : FnOk P w K mg base (L2.CX P w) (k + 1) f fd ["allowed", "field"] (spDemand CB) := by
  refine F.okX scDemand (fun vs H Q E h => ?_) (fun cdv A outer s H vs Q E hr h => ?_)
  · obtain ⟨b, z, rfl, _⟩ := h
    rfl
  · obtain ⟨b, z, rfl, hz, k1, k2⟩ := h
    refine ⟨_, pss_one (ps_if (pt_not (pt_val (pv 0))) (pss_one (ps_raise (W := fun cls d _ H => E cls d H) rfl (takes_of rfl rfl rfl rfl) (R _ rfl rfl rfl rfl rfl hr _ _ _ _ (pa_cons (pv 1) pa_nil) (by rfl) (by rfl) (by rfl)))) pss_nil), ?_⟩
    refine s_if (et_not (et_B (ev_var rfl))) (fun hb H1 e1 => ?_) (fun hb H1 e1 => ?_)
    · have hb' : b = false := by simpa using hb
      refine ⟨_, rfl, z, rfl, hz, fun d hd => ?_⟩
      exact k2 hb' d _ (e1.trans (Ex.new hd)) (fresh_back e1 hd) upd_same
    · have hb' : b = true := by simpa using hb
      exact k1 hb' H1 e1
/-- demand(e, 'f') as a statement, what follows behind it -/
theorem q_demand {σ : L2.St} {H : Hp} {te : TE} {f : Str} {b : Bool} {E : L2.St → XK} {tz : TS} {D : Ends} (hf : f.length ≤ 1000) (h : Ev te σ H (.bl b)) (k1 : b = true → ∀ H1, Ex H H1 → tz D σ H1) (k2 : b = false → Bad CB f H (E σ)) :
    tSeq (tDrop (tCallS (spDemand CB) E (tCons te (tCons (tC (.str f)) tNil)))) tz D σ H :=
  h H (Ex.refl H) _ fun H1 e1 => ⟨b, f, rfl, hf, fun hb H2 e2 => k1 hb H2 (e1.trans e2), fun hb => (k2 hb).ex e1⟩
theorem s_demand {σ : L2.St} {H : Hp} {te : TE} {f : Str} {b : Bool} {E : L2.St → XK} {D : Ends} (hf : f.length ≤ 1000) (h : Ev te σ H (.bl b)) (k1 : b = true → ∀ H1, Ex H H1 → D.nx σ H1) (k2 : b = false → Bad CB f H (E σ)) :
    tDrop (tCallS (spDemand CB) E (tCons te (tCons (tC (.str f)) tNil))) D σ H :=
  h H (Ex.refl H) _ fun H1 e1 => ⟨b, f, rfl, hf, fun hb H2 e2 => k1 hb H2 (e1.trans e2), fun hb => (k2 hb).ex e1⟩
/-! ### what a process contains -/
theorem kNew : decide (V.str "new" = V.str "choice") = false := by decide +kernel
theorem kIf : decide (V.str "if" = V.str "choice") = false := by decide +kernel
theorem kCall : decide (V.str "call" = V.str "choice") = false := by decide +kernel
def spInner (C : Addr) : Sp := fun vs H Q _ => ∃ (p : Pr) (t : Addr) (ps rs : List V), vs = [.str p.kind, .ref t] ∧ H t = some (.tup ps) ∧ ps.length ≤ 100 ∧ InnOf C H ps rs p ∧ RetL rs H Q
theorem sp_inner {p : Pr} {t : Addr} {ps rs : List V} {H : Hp} (h1 : H t = some (.tup ps)) (h2 : ps.length ≤ 100) (h3 : InnOf C H ps rs p) : SpL (spInner C) [.str p.kind, .ref t] H rs := fun H1 e Q q E =>
  ⟨p, t, ps, rs, rfl, e _ _ h1, h2, h3.ex e, q⟩
theorem scInner : FnScope ["kind", "parts", "offer", "part"] ["kind", "parts"] (defScope (topS 23)) := ⟨rfl, rfl, rfl, by decide +kernel, rfl, by decide +kernel, by decide +kernel⟩
theorem tyx_pr (T : TerT K mg C CB) {H : Hp} {a : Addr} {p : Pr} (h : PrAt C H a p) : ∀ H1, Ex H H1 → TyX K H1 (.ref a) (.ref C) := fun H1 e => by
  obtain ⟨t, ps, ⟨dx, h1⟩, _⟩ := h.out
  exact .base (.ins (e _ _ h1) T.cl T.ha T.hn T.htk T.hm)
theorem tyx_opd (T : TerT K mg C CB) {H : Hp} (o : Opd) : ∃ t, (∀ H1, Ex H H1 → TyX K H1 o.v t) ∧ PySem.W.kitOne K t (.ref C) = some false := by
  cases o with
  | int i => exact ⟨_, fun _ _ => .base (.int i), T.kInt⟩
  | nm z => exact ⟨_, fun _ _ => .base (.str z), T.kStr⟩
theorem et_isPr {σ : L2.St} {H : Hp} {i : Nat} {x : V} {t : Value} {b : Bool} (hx : σ[i]? = some (some x)) (ht : ∀ H1, Ex H H1 → TyX K H1 x t) (hk : PySem.W.kitOne K t (.ref C) = some b) :
    EvT (L2.tB (tCB (rIsi K) (tCons (tVar i) (tCons (tC (.ref C)) tNil)))) σ H b := et_B (ev_cb (ea_cons (ev_var hx) (ea_cons ev_c ea_nil)) (rc_isiOwn ht hk))
theorem ok_inner {f : Addr} {fd : FuncData} (F : Fun K "inner_processes" "inner_processes" (topS 23) f fd) (B : BasT K mg) (T : TerT K mg C CB) : FnOk P w K mg base CX0 1 f fd ["kind", "parts"] (spInner C) := by
  refine F.ok scInner (fun vs H Q E h => ?_) (fun cdv A outer s H vs Q E hr h => ?_)
  · obtain ⟨p, t, ps, rs, rfl, _⟩ := h
    rfl
  · obtain ⟨p, t, ps, rs, rfl, ht, hl, hI, k⟩ := h
    refine ⟨_, pss_cons (ps_if (pt_cmpR op_eq (pv 0) pe_str (nomark _)) (pss_one (ps_ret (pe_lc (own := [("offer", 2)]) (g := gName 2) (tt := tYes) rfl scInner.nd (pi_tup (pv 1)) (blkOk_by (own := [("offer", 2)]) (N := ["kind", "parts", "offer", "part"]) (sc := defScope (topS 23)) (by decide +kernel))
          (fun _ _ _ _ _ => pg_name (i := 2) scInner.nd rfl (Or.inl rfl)) (fun _ _ _ _ _ => pts_nil) (fun _ _ _ _ _ => pe_ix (r := rIxT K) ix_tup (pv 2) (pe_un un_neg pe_int) (fun _ _ => rfl))))) pss_nil)
      (pss_one (ps_ret (pe_lc (own := [("part", 3)]) (g := gName 3) (tt := L2.tB (tCB (rIsi K) (tCons (tVar 3) (tCons (tC (.ref C)) tNil)))) rfl scInner.nd (pi_tup (pv 1)) (blkOk_by (own := [("part", 3)]) (N := ["kind", "parts", "offer", "part"]) (sc := defScope (topS 23)) (by decide +kernel))
          (fun _ _ _ _ _ => pg_name (i := 3) scInner.nd rfl (Or.inl rfl)) (fun _ _ _ _ _ => pts_one (pt_val (pe_callB (id := "isinstance") (r := rIsi K) call_isi (by rfl) B.isinst (by decide +kernel) (pa_cons (pv 3) (pa_cons (pe_glob (v := .ref C) (by rfl) T.mgC rfl) pa_nil))))) (fun _ _ _ _ _ => pv 3)))), ?_⟩
    cases p with
    | choice os =>
      refine q_if (b := true) (et_test (ev_op (ev_var rfl) ev_c (rv_eq rfl))) (fun _ H1 e1 => ?_) (fun q => nomatch q)
      obtain ⟨h1, h2, h3⟩ := hI.ex e1
      refine s_retL (el_lcTy (ev_var rfl) (st_of (e1 _ _ ht)) (by omega) (fun _ => rfl) h1 (fun i x y H2 e2 hx hy => ?_)) (fun q H2 hq e2 h2 => k q H2 (fresh_back e1 hq) (e1.trans e2) h2)
      obtain ⟨o, c, s, m, op, u, y', rfl, z2, z3⟩ := h3 i x hx
      have e : y' = y := by
        rw [hy] at z2
        exact (Option.some.inj z2).symm
      subst e
      exact ev_op (ev_var rfl) (ev_un ev_c ru_neg) (rv_ixT (st_of (e2 _ _ z3)) rfl)
    | new n kk r =>
      refine q_if (b := false) (et_is (et_test (ev_op (ev_var rfl) ev_c (rv_eq rfl))) kNew) (fun q => nomatch q) (fun _ H1 e1 => ?_)
      obtain ⟨b, rfl, rfl, hb⟩ := hI.ex e1
      refine s_retL (xs := [.ref b]) (el_lcT (fun i => decide (i = 2)) (fun i => .ref b) (ev_var rfl) (st_of (e1 _ _ ht)) (by show 3 ≤ 40000; decide) (fun _ => rfl) (fun i x H2 e2 hx => ?_) (fun i x H2 e2 hx hi => ?_)) (fun q H2 hq e2 h2 => k q H2 (fresh_back e1 hq) (e1.trans e2) h2)
      · match i, hx with
        | 0, hx => cases hx; exact et_isPr rfl (fun _ _ => .base (.str n)) T.kStr
        | 1, hx => cases hx; exact et_isPr rfl (fun _ _ => .base (.int kk)) T.kInt
        | 2, hx => cases hx; exact et_isPr rfl (tyx_pr T (hb.ex e2)) kOwn
      · match i, hx, hi with
        | 2, hx, _ => cases hx; exact ev_var rfl
    | cond l r y n =>
      refine q_if (b := false) (et_is (et_test (ev_op (ev_var rfl) ev_c (rv_eq rfl))) kIf) (fun q => nomatch q) (fun _ H1 e1 => ?_)
      obtain ⟨b, c, rfl, rfl, hb, hc⟩ := hI.ex e1
      refine s_retL (xs := [.ref b, .ref c]) (el_lcT (fun i => decide (2 ≤ i)) (fun i => if i = 2 then .ref b else .ref c) (ev_var rfl) (st_of (e1 _ _ ht)) (by show 4 ≤ 40000; decide) (fun _ => rfl) (fun i x H2 e2 hx => ?_) (fun i x H2 e2 hx hi => ?_)) (fun q H2 hq e2 h2 => k q H2 (fresh_back e1 hq) (e1.trans e2) h2)
      · match i, hx with
        | 0, hx => cases hx; obtain ⟨t, h1, h2⟩ := tyx_opd T l; exact et_isPr rfl h1 h2
        | 1, hx => cases hx; obtain ⟨t, h1, h2⟩ := tyx_opd T r; exact et_isPr rfl h1 h2
        | 2, hx => cases hx; exact et_isPr rfl (tyx_pr T (hb.ex e2)) kOwn
        | 3, hx => cases hx; exact et_isPr rfl (tyx_pr T (hc.ex e2)) kOwn
      · match i, hx, hi with
        | 2, hx, _ => cases hx; exact ev_var rfl
        | 3, hx, _ => cases hx; exact ev_var rfl
    | call n ops =>
      refine q_if (b := false) (et_is (et_test (ev_op (ev_var rfl) ev_c (rv_eq rfl))) kCall) (fun q => nomatch q) (fun _ H1 e1 => ?_)
      obtain ⟨u, rfl, rfl, hu⟩ := hI.ex e1
      refine s_retL (xs := []) (el_lcT (fun i => false) (fun i => .non) (ev_var rfl) (st_of (e1 _ _ ht)) (by show 2 ≤ 40000; decide) (fun _ => rfl) (fun i x H2 e2 hx => ?_) (fun i x H2 e2 hx hi => nomatch hi)) (fun q H2 hq e2 h2 => k q H2 (fresh_back e1 hq) (e1.trans e2) h2)
      match i, hx with
      | 0, hx => cases hx; exact et_isPr rfl (fun _ _ => .base (.str n)) T.kStr
      | 1, hx => cases hx; exact et_isPr rfl (fun H3 e3 => .base (.tup (e3 _ _ (e2 _ _ hu)))) T.kTup
end
end Fs

set_option Elab.async false
set_option linter.all false
set_option maxRecDepth 100000
set_option maxHeartbeats 2000000
namespace Fs
open PySem L2 Evl FsE FsC FsR
def spSize (C : Addr) (f : Pr → Int) : Sp := fun vs H Q _ => ∃ (p : Pr) (t : Addr) (ps : List V), vs = [.str p.kind, .ref t] ∧ H t = some (.tup ps) ∧ ps.length ≤ 100 ∧ PartsAt C H ps p ∧ RetV (.int (f p)) H Q
theorem sp_size {C : Addr} {f : Pr → Int} {p : Pr} {t : Addr} {ps : List V} {H : Hp} (h1 : H t = some (.tup ps)) (h2 : ps.length ≤ 100) (h3 : PartsAt C H ps p) : SpV (spSize C f) [.str p.kind, .ref t] H (.int (f p)) := fun H1 e Q q E =>
  ⟨p, t, ps, rfl, e _ _ h1, h2, h3.ex e, q⟩
theorem hu2_of {A : Around} {k : Nat} (hr : Room k A) : A.units + 1 + 1 < cLine := Nat.lt_of_le_of_lt (by omega : A.units + 1 + 1 ≤ A.units + 64) hr.units
theorem kCh : decide (V.str "choice" = V.str "choice") = true := by decide +kernel
section
variable {P : Program} {w : World} {K : PySem.W.Frag} {mg : Str → Option Value} {base : Heap} {C CB : Addr}
theorem InnOf.short {H : Hp} {ps rs : List V} {p : Pr} (h : InnOf C H ps rs p) (hl : ps.length ≤ 100) : rs.length ≤ 100 := by
  cases p with
  | choice os =>
    have := h.1
    omega
  | new n k r =>
    obtain ⟨b, _, rfl, _⟩ := h
    show 1 ≤ 100
    decide
  | cond l r y n =>
    obtain ⟨b, c, _, rfl, _⟩ := h
    show 2 ≤ 100
    decide
  | call n ops =>
    obtain ⟨u, _, rfl, _⟩ := h
    show 0 ≤ 100
    decide
/-- [process.f for process in (the list)] -/
theorem el_flds {σ : L2.St} {H : Hp} {tl : TE} {j : Nat} {vs : List Nat} {rs : List V} {ps : List Pr} {f : Str} {g : Pr → Int} (hf : ∀ {H : Hp} {a : Addr} {p : Pr}, PrAt C H a p → ∃ dx fs, H a = some (.ins C dx fs) ∧ fs.lookup f = some (.int (g p)))
    (cl : Cls K C) (n : NoAttr K C f) (h : EvL tl σ H rs) (hl : rs.length ≤ 100) (hi : InnAt C H rs ps) (hw : ∀ x, wipe ((wipe σ vs).set j (some x)) vs = wipe σ vs) (hj : ∀ x, ((wipe σ vs).set j (some x))[j]? = some (some x)) :
    EvL (tLc (iList K tl) (gName j) tYes (tFld K (tVar j) f) vs) σ H ((ps.map g).map V.int) := by
  refine el_lcNLy h (by omega) hw (by rw [List.length_map, List.length_map, hi.length]) (fun i x y H1 e hx hy => ?_)
  obtain ⟨a, p, rfl, hp, hps⟩ := InnAt.at_ (hi.ex e) hx
  obtain ⟨dx, fs, h1, h2⟩ := hf hp
  have ey : y = .int (g p) := by
    rw [List.getElem?_map, List.getElem?_map, hps] at hy
    exact (Option.some.inj hy).symm
  subst ey
  exact ev_fld (ev_var (hj _)) h1 cl n h2
theorem fld_depth {H : Hp} {a : Addr} {p : Pr} (h : PrAt C H a p) : ∃ dx fs, H a = some (.ins C dx fs) ∧ fs.lookup ("depth" : Str) = some (.int p.depth) := by
  obtain ⟨t, ps, ⟨dx, h1⟩, _⟩ := h.out
  exact ⟨dx, _, h1, pf_depth⟩
theorem fld_size {H : Hp} {a : Addr} {p : Pr} (h : PrAt C H a p) : ∃ dx fs, H a = some (.ins C dx fs) ∧ fs.lookup ("size" : Str) = some (.int p.size) := by
  obtain ⟨t, ps, ⟨dx, h1⟩, _⟩ := h.out
  exact ⟨dx, _, h1, pf_size⟩
theorem scDepth : FnScope ["kind", "parts", "process"] ["kind", "parts"] (defScope (topS 25)) := ⟨rfl, rfl, rfl, by decide +kernel, rfl, by decide +kernel, by decide +kernel⟩
theorem ok_depth {f : Addr} {fd : FuncData} (F : Fun K "depth_of" "depth_of" (topS 25) f fd) (T : TerT K mg C CB) (GI : CalX P w K mg base CX0 1 "inner_processes" (spInner C)) : FnOk P w K mg base CX0 2 f fd ["kind", "parts"] (spSize C Pr.depth) := by
  refine F.ok scDepth (fun vs H Q E h => ?_) (fun cdv A outer s H vs Q E hr h => ?_)
  · obtain ⟨p, t, ps, rfl, _⟩ := h
    rfl
  · obtain ⟨p, t, ps, rfl, ht, hl, hP, k⟩ := h
    obtain ⟨rs, hI⟩ := hP.inn
    refine ⟨_, pss_one (ps_ret (pe_op op_add pe_int (pe_callBK (ck_maxD rfl (hu2_of hr)) (by rfl) T.max (by decide +kernel) (pa_cons
      (pe_lc (own := [("process", 2)]) (g := gName 2) (tt := tYes) (te := tFld K (tVar 2) "depth") rfl scDepth.nd (pi_list (pe_cx (E := fun _ => E0) GI hr (by decide) (by rfl) at0 (pa_cons (pv 0) (pa_cons (pv 1) pa_nil)))) (blkOk_by (own := [("process", 2)]) (N := ["kind", "parts", "process"]) (sc := defScope (topS 25)) (by decide +kernel))
          (fun _ _ _ _ _ => pg_name (i := 2) scDepth.nd rfl (Or.inl rfl)) (fun _ _ _ _ _ => pts_nil) (fun _ _ _ _ _ => pe_fld (pv 2) rfl)) pa_nil) (pk_cons pe_int pk_nil)))), ?_⟩
    have g : Ev (tOp (rI0 fun i j => .int (i + j)) (tC (.int 1)) (tCKw (FsR.rMaxD K) (tCons (tLc (iList K (tCallS (spInner C) (fun _ => E0) (tCons (tVar 0) (tCons (tVar 1) tNil)))) (gName 2) tYes (tFld K (tVar 2) "depth") [2]) tNil) (tCons (tC (.int 0)) tNil)))
        (start ["kind", "parts", "process"] [.str p.kind, .ref t]) H (.int (1 + maxDef 0 (p.inner.map Pr.depth))) :=
      ev_op ev_c (ev_maxD (el_flds (fun h => fld_depth h) T.cl T.nD (el_cx (ea_cons (ev_var rfl) (ea_cons (ev_var rfl) ea_nil)) (sp_inner ht hl hI)) (hI.short hl) hI.at (fun _ => rfl) (fun _ => rfl))) rv_I0
    rw [Pr.depth_eq] at g
    exact s_ret g k
theorem scSize : FnScope ["kind", "parts", "own", "process"] ["kind", "parts"] (defScope (topS 24)) := ⟨rfl, rfl, rfl, by decide +kernel, rfl, by decide +kernel, by decide +kernel⟩
theorem own_eq {H : Hp} {ps : List V} {p : Pr} (h : PartsAt C H ps p) : p.own = if decide (V.str p.kind = V.str "choice") = true then (if ((ps.length : Nat) : Int) > 1 then ((ps.length : Nat) : Int) else 1) else 1 := by
  cases p with
  | choice os =>
    rw [if_pos (show decide (V.str (Pr.choice os).kind = V.str "choice") = true from kCh)]
    show max 1 (os.len : Int) = _
    rw [OfsAt.len h]
    by_cases q : ((os.len : Nat) : Int) > 1
    · rw [if_pos q]
      omega
    · rw [if_neg q]
      omega
  | new n k r =>
    rw [show decide (V.str (Pr.new n k r).kind = V.str "choice") = false from kNew]
    rfl
  | cond l r y n =>
    rw [show decide (V.str (Pr.cond l r y n).kind = V.str "choice") = false from kIf]
    rfl
  | call n ops =>
    rw [show decide (V.str (Pr.call n ops).kind = V.str "choice") = false from kCall]
    rfl
theorem ok_size {f : Addr} {fd : FuncData} (F : Fun K "size_of" "size_of" (topS 24) f fd) (B : BasT K mg) (T : TerT K mg C CB) (GI : CalX P w K mg base CX0 1 "inner_processes" (spInner C)) : FnOk P w K mg base CX0 2 f fd ["kind", "parts"] (spSize C Pr.size) := by
  refine F.ok scSize (fun vs H Q E h => ?_) (fun cdv A outer s H vs Q E hr h => ?_)
  · obtain ⟨p, t, ps, rfl, _⟩ := h
    rfl
  · obtain ⟨p, t, ps, rfl, ht, hl, hP, k⟩ := h
    obtain ⟨rs, hI⟩ := hP.inn
    refine ⟨_, pss_cons (ps_set (i := 2) scSize.nd rfl (Or.inl rfl) (pe_ifExp (pt_cmpR op_eq (pv 0) pe_str (nomark _)) (pe_callB (call_max2 rfl) (by rfl) T.max (by decide +kernel) (pa_cons pe_int (pa_cons (pe_callB call_len_seq (by rfl) B.len PySem.boot_len (pa_cons (pv 1) pa_nil)) pa_nil))) pe_int))
      (pss_one (ps_ret (pe_op op_add (pv 2) (pe_callB (cr_sum rfl) (by rfl) T.sum (by decide +kernel) (pa_cons
      (pe_lc (own := [("process", 3)]) (g := gName 3) (tt := tYes) (te := tFld K (tVar 3) "size") rfl scSize.nd (pi_list (pe_cx (E := fun _ => E0) GI hr (by decide) (by rfl) at0 (pa_cons (pv 0) (pa_cons (pv 1) pa_nil)))) (blkOk_by (own := [("process", 3)]) (N := ["kind", "parts", "own", "process"]) (sc := defScope (topS 24)) (by decide +kernel))
          (fun _ _ _ _ _ => pg_name (i := 3) scSize.nd rfl (Or.inl rfl)) (fun _ _ _ _ _ => pts_nil) (fun _ _ _ _ _ => pe_fld (pv 3) rfl)) pa_nil))))), ?_⟩
    refine q_asg (v := .int p.own) (ev_if (b := decide (V.str p.kind = V.str "choice")) (et_test (ev_op (ev_var rfl) ev_c (rv_eq rfl))) (fun hb => ?_) (fun hb => ?_)) (fun H1 e1 => ?_)
    · have q := ev_max2 (σ := start ["kind", "parts", "own", "process"] [.str p.kind, .ref t]) (H := H) (ta := tC (.int 1)) (i := 1) (j := ((ps.length : Nat) : Int)) ev_c (ev_lenT (K := K) (ta := tVar 1) (ev_var rfl) (st_of ht))
      rw [own_eq hP, if_pos hb]
      exact q
    · rw [own_eq hP, if_neg (by rw [hb]; decide)]
      exact ev_c
    · have g : Ev (tOp (rI0 fun i j => .int (i + j)) (tVar 2) (tCB (rSum K) (tCons (tLc (iList K (tCallS (spInner C) (fun _ => E0) (tCons (tVar 0) (tCons (tVar 1) tNil)))) (gName 3) tYes (tFld K (tVar 3) "size") [3]) tNil)))
          ((start ["kind", "parts", "own", "process"] [.str p.kind, .ref t]).set 2 (some (.int p.own))) H1 (.int (p.own + (p.inner.map Pr.size).sum)) :=
        ev_op (ev_var rfl) (ev_sum (el_flds (fun h => fld_size h) T.cl T.nS (el_cx (ea_cons (ev_var rfl) (ea_cons (ev_var rfl) ea_nil)) (sp_inner (e1 _ _ ht) hl (hI.ex e1))) (hI.short hl) (hI.at.ex e1) (fun _ => rfl) (fun _ => rfl))) rv_I0
      rw [Pr.size_eq] at g
      exact s_ret g (fun H2 e2 => k H2 (e1.trans e2))
end
end Fs

set_option Elab.async false
set_option linter.all false
set_option maxRecDepth 100000
set_option maxHeartbeats 2000000
namespace Fs
open PySem L2 Evl FsE FsC FsR
def badInit (p : Pr) : Option Str := if p.depth ≤ 20 then (if p.size ≤ 400 then none else some "size") else some "depth"
def spInit (C CB : Addr) : Sp := fun vs H Q E => ∃ (a dx : Addr) (p : Pr) (t : Addr) (ps : List V) (H0 : Hp), vs = [.ref a, .str p.kind, .ref t] ∧ H a = some (.ins C dx []) ∧ H0 a = none ∧ Ex H0 H ∧ H0 t = some (.tup ps) ∧ ps.length ≤ 100 ∧ PartsAt C H0 ps p ∧
  (badInit p = none → ∀ H', Ex H0 H' → H' a = some (.ins C dx (pFlds p.kind t p.depth p.size)) → Q .non H') ∧ (∀ f, badInit p = some f → Bad CB f H0 E)
section
variable {P : Program} {w : World} {K : PySem.W.Frag} {mg : Str → Option Value} {base : Heap} {C CB : Addr}
theorem q_fld {σ : L2.St} {H : Hp} {ta tv : TE} {a C dx : Addr} {fs : List (Str × V)} {f : Str} {v : V} {tz : TS} {D : Ends} (hv : Ev tv σ H v) (ho : Ev ta σ H (.ref a)) (hi : H a = some (.ins C dx fs)) (cl : Cls K C) (n : NoAttr K C f) (hl : fs.length < 1000)
    (k : ∀ H1, Ex H H1 → tz D σ (upd H1 a (.ins C dx (putF f v fs)))) : tSeq (sFld K ta tv f) tz D σ H :=
  hv H (Ex.refl H) _ fun H1 e1 => ho H1 e1 _ fun H2 e2 => ⟨a, C, dx, fs, rfl, (e1.trans e2) _ _ hi, cl, n, hl, k H2 (e1.trans e2)⟩
theorem scInit : FnScope ["self", "kind", "parts"] ["self", "kind", "parts"] (defScope (inClass (topS 26) 0)) := ⟨rfl, rfl, rfl, by decide +kernel, rfl, by decide +kernel, by decide +kernel⟩
theorem putF_len (f : Str) (v : V) : ∀ fs : List (Str × V), (putF f v fs).length ≤ fs.length + 1
  | [] => by
    show 1 ≤ 0 + 1
    decide
  | (g, x) :: fs => by
    have ih := putF_len f v fs
    show (if g = f then (g, v) :: fs else (g, x) :: putF f v fs).length ≤ _
    by_cases h : g = f
    · rw [if_pos h]
      simp
    · rw [if_neg h]
      simp only [List.length_cons]
      omega
theorem ok_init {f : Addr} {fd : FuncData} {k : Nat} (F : Fun K "__init__" "Process.__init__" (inClass (topS 26) 0) f fd) (T : TerT K mg C CB) (GD : CalX P w K mg base CX0 2 "depth_of" (spSize C Pr.depth)) (GS : CalX P w K mg base CX0 2 "size_of" (spSize C Pr.size))
    (GM : CalX P w K mg base (L2.CX P w) k "demand" (spDemand CB)) (hk : 2 ≤ k) : FnOk P w K mg base (L2.CX P w) (k + 1) f fd ["self", "kind", "parts"] (spInit C CB) := by
  refine F.okX scInit (fun vs H Q E h => ?_) (fun cdv A outer s H vs Q E hr h => ?_)
  · obtain ⟨a, dx, p, t, ps, H0, rfl, _⟩ := h
    rfl
  · obtain ⟨a, dx, p, t, ps, H0, rfl, ha, hna, e0, ht, hl, hP, k1, k2⟩ := h
    refine ⟨_, pss_cons (ps_fld (pv 0) (pv 1) rfl) (pss_cons (ps_fld (pv 0) (pv 2) rfl)
      (pss_cons (ps_fld (pv 0) (pe_cx (E := fun _ => E0) GD hr hk (by rfl) at0 (pa_cons (pv 1) (pa_cons (pv 2) pa_nil))) rfl)
      (pss_cons (ps_fld (pv 0) (pe_cx (E := fun _ => E0) GS hr hk (by rfl) at0 (pa_cons (pv 1) (pa_cons (pv 2) pa_nil))) rfl)
      (pss_cons (ps_expr (pe_cx (E := WE (fun cls d _ H => E cls d H)) GM hr (Nat.le_refl _) (by rfl) (fun σ => passAt (takes_of rfl rfl rfl rfl) σ) (pa_cons (pe_cmpR op_le (pe_fld (pv 0) rfl) (C8.pe_gc (by rfl) T.depth) (nomark _)) (pa_cons pe_str pa_nil))))
      (pss_one (ps_expr (pe_cx (E := WE (fun cls d _ H => E cls d H)) GM hr (Nat.le_refl _) (by rfl) (fun σ => passAt (takes_of rfl rfl rfl rfl) σ) (pa_cons (pe_cmpR op_le (pe_fld (pv 0) rfl) (C8.pe_gc (by rfl) T.size) (nomark _)) (pa_cons pe_str pa_nil))))))))), ?_⟩
    refine q_fld (ev_var rfl) (ev_var rfl) ha T.cl T.nK (by show 0 < 1000; decide) (fun H1 e1 => ?_)
    have x1 : Ex H0 (upd H1 a (.ins C dx (putF "kind" (.str p.kind) []))) := Ex.mut (e0.trans e1) hna
    refine q_fld (ev_var rfl) (ev_var rfl) upd_same T.cl T.nP (by have := putF_len "kind" (.str p.kind) []; simp only [List.length_nil] at this; omega) (fun H2 e2 => ?_)
    have x2 : Ex H0 (upd H2 a (.ins C dx (putF "parts" (.ref t) (putF "kind" (.str p.kind) [])))) := Ex.mut (x1.trans e2) hna
    refine q_fld (ev_cx (ea_cons (ev_var rfl) (ea_cons (ev_var rfl) ea_nil)) (sp_size (x2 _ _ ht) hl (hP.ex x2))) (ev_var rfl) upd_same T.cl T.nD (by have h1 := putF_len "kind" (.str p.kind) []; have h2 := putF_len "parts" (.ref t) (putF "kind" (.str p.kind) []); simp only [List.length_nil] at h1; omega) (fun H3 e3 => ?_)
    have x3 : Ex H0 (upd H3 a (.ins C dx (putF "depth" (.int p.depth) (putF "parts" (.ref t) (putF "kind" (.str p.kind) []))))) := Ex.mut (x2.trans e3) hna
    refine q_fld (ev_cx (ea_cons (ev_var rfl) (ea_cons (ev_var rfl) ea_nil)) (sp_size (x3 _ _ ht) hl (hP.ex x3))) (ev_var rfl) upd_same T.cl T.nS (by have h1 := putF_len "kind" (.str p.kind) []; have h2 := putF_len "parts" (.ref t) (putF "kind" (.str p.kind) []); have h3 := putF_len "depth" (.int p.depth) (putF "parts" (.ref t) (putF "kind" (.str p.kind) [])); simp only [List.length_nil] at h1; omega) (fun H4 e4 => ?_)
    have x4 : Ex H0 (upd H4 a (.ins C dx (pFlds p.kind t p.depth p.size))) := Ex.mut (x3.trans e4) hna
    have h4 : (upd H4 a (.ins C dx (pFlds p.kind t p.depth p.size))) a = some (.ins C dx (pFlds p.kind t p.depth p.size)) := upd_same
    refine q_demand (by decide +kernel) (ev_op (ev_fld (ev_var rfl) h4 T.cl T.nD pf_depth) ev_c rv_I0) (fun hb H5 e5 => ?_) (fun hb => ?_)
    · have hd : p.depth ≤ 20 := by simpa using hb
      refine s_demand (by decide +kernel) (ev_op (ev_fld (ev_var rfl) (e5 _ _ h4) T.cl T.nS pf_size) ev_c rv_I0) (fun hb2 H6 e6 => ?_) (fun hb2 => ?_)
      · have hs : p.size ≤ 400 := by simpa using hb2
        exact k1 (by unfold badInit; rw [if_pos hd, if_pos hs]) H6 ((x4.trans e5).trans e6) ((e5.trans e6) _ _ h4)
      · have hs : ¬ p.size ≤ 400 := by simpa using hb2
        exact (k2 "size" (by unfold badInit; rw [if_pos hd, if_neg hs])).ex (x4.trans e5)
    · have hd : ¬ p.depth ≤ 20 := by simpa using hb
      exact (k2 "depth" (by unfold badInit; rw [if_neg hd])).ex x4
/-- what a maker gives: the process, or the field that is refused -/
def Made (C CB : Addr) (o : Option Str) (p : Pr) (H : Hp) (Q : VK) (E : XK) : Prop :=
  (o = none → ∀ a H', H a = none → Ex H H' → PrAt C H' a p → Q (.ref a) H') ∧ (∀ f, o = some f → Bad CB f H E)
theorem Made.ex {o : Option Str} {p : Pr} {H H' : Hp} {Q : VK} {E : XK} (e : Ex H H') (h : Made C CB o p H Q E) : Made C CB o p H' Q E :=
  ⟨fun ho a H2 ha e2 hp => h.1 ho a H2 (fresh_back e ha) (e.trans e2) hp, fun f hf => (h.2 f hf).ex e⟩
/-- a tuple that holds the parts of p -/
def EvP (C : Addr) (tp : TE) (σ : L2.St) (H : Hp) (p : Pr) : Prop := ∀ H1, Ex H H1 → ∀ Q : VK, (∀ t H2 ps, H1 t = none → Ex H1 H2 → H2 t = some (.tup ps) → ps.length ≤ 100 → PartsAt C H2 ps p → Q (.ref t) H2) → tp σ H1 Q
theorem EvP.of {σ : L2.St} {H : Hp} {tp : TE} {p : Pr} {ps : List V} (h : EvU tp σ H ps) (hl : ps.length ≤ 100) (hP : PartsAt C H ps p) : EvP C tp σ H p := fun H1 e Q q => h H1 e Q fun t H2 ht e2 h2 => q t H2 ps ht e2 h2 hl (hP.ex (e.trans e2))
/-- Process(kind, parts) -/
theorem ret_make {σ : L2.St} {H : Hp} {tk tp : TE} {p : Pr} {D : Ends} {E : XK} (hkd : Ev tk σ H (.str p.kind)) (hp : EvP C tp σ H p) (m : Made C CB (badInit p) p H D.rt E) :
    tRet (tMake C (spInit C CB) [] E (tCons tk (tCons tp tNil))) D σ H :=
  hkd H (Ex.refl H) _ fun H1 e1 => hp H1 e1 _ fun t H2 ps ht e2 h2 hl hP => fun x dx hx hdx hne => by
    have x0 : Ex H2 (upd (upd H2 dx (.own x)) x (.ins C dx [])) := by
      intro b o hb
      rw [upd_ne (ne_of_none hb hx), upd_ne (ne_of_none hb hdx)]
      exact hb
    refine ⟨x, dx, p, t, ps, H2, rfl, upd_same, hx, x0, h2, hl, hP, fun hb H' e' h' => ⟨rfl, ?_⟩, fun f hf => ((m.2 f hf).ex (e1.trans e2))⟩
    exact m.1 hb x H' (fresh_back (e1.trans e2) hx) ((e1.trans e2).trans e') (PrAt.mk ⟨dx, h'⟩ (e' _ _ h2) (hP.ex e'))
end
end Fs

set_option Elab.async false
set_option linter.all false
set_option maxRecDepth 100000
set_option maxHeartbeats 2000000
namespace Fs
open PySem L2 Evl FsE FsC FsR FsT
def namesS (ns : List Str) : Bool := (ns.map nameS).all id && decide ns.Nodup
/-- names, in a list or a tuple -/
def NmsAt (H : Hp) (u : Addr) (ns : List Str) : Prop := H u = some (.lst (ns.map V.str)) ∨ H u = some (.tup (ns.map V.str))
theorem NmsAt.ex {H H' : Hp} {u : Addr} {ns : List Str} (e : Ex H H') (h : NmsAt H u ns) : NmsAt H' u ns := h.imp (e _ _) (e _ _)
theorem NmsAt.sq {K : PySem.W.Frag} {H : Hp} {u : Addr} {ns : List Str} (h : NmsAt H u ns) : SqL K H u (ns.map V.str) ∨ SqT K H u (ns.map V.str) := h.imp sq_of st_of
def spNames : Sp := fun vs H Q _ => ∃ (u : Addr) (ns : List Str), vs = [.ref u] ∧ NmsAt H u ns ∧ ns.length ≤ 90 ∧ (∀ z ∈ ns, z.length ≤ 40000) ∧ RetV (.bl (namesS ns)) H Q
section
variable {P : Program} {w : World} {K : PySem.W.Frag} {mg : Str → Option Value} {base : Heap} {C CB : Addr}
/-- len(set(xs)) == n, n the length of xs -/
theorem ev_differ {σ : L2.St} {H : Hp} {ta tb : TE} {u : Addr} {ns : List Str} (h : Ev ta σ H (.ref u)) (hu : NmsAt H u ns) (hl : ns.length ≤ 90) (hb : Ev tb σ H (.int ((ns.length : Nat) : Int))) : Ev (tOp rEq (tLenTx K ta) tb) σ H (.bl (decide ns.Nodup)) := fun H1 e Q q =>
  h H1 e _ fun H2 e2 => ⟨u, ns, rfl, (hu.ex (e.trans e2)).sq, by omega, fun c fw => hb H2 (e.trans e2) _ fun H3 e3 => rv_eq (x := .int (c : Nat)) (y := .int ((ns.length : Nat) : Int)) rfl H3 (Ex.refl H3) _ fun H4 e4 => by
    have a := fw.all
    rw [List.take_length] at a
    have b : decide (V.int ((c : Nat) : Int) = V.int ((ns.length : Nat) : Int)) = decide ns.Nodup := by
      by_cases hn : ns.Nodup
      · rw [decide_eq_true hn, a.mpr hn]
        exact decide_eq_true rfl
      · rw [decide_eq_false hn]
        refine decide_eq_false fun z => hn (a.mp ?_)
        injection z with z
        omega
    rw [b]
    exact q H4 ((e2.trans e3).trans e4)⟩
theorem nms_at {ns : List Str} {i : Nat} {x y : V} (hz : ∀ z ∈ ns, z.length ≤ 40000) (hx : (ns.map V.str)[i]? = some x) (hy : ((ns.map nameS).map V.bl)[i]? = some y) : OpV x ∧ y = .bl (nameV x) := by
  rw [List.map_map, List.getElem?_map] at hy
  rw [List.getElem?_map] at hx
  cases hq : ns[i]? with
  | none =>
    rw [hq] at hx
    cases hx
  | some z =>
    rw [hq] at hx hy
    have ex : V.str z = x := Option.some.inj hx
    have ey : V.bl (nameS z) = y := Option.some.inj hy
    subst ex
    exact ⟨hz z (List.mem_of_getElem? hq), ey.symm⟩
theorem scNames : FnScope ["texts", "text"] ["texts"] (defScope (topS 8)) := ⟨rfl, rfl, rfl, by decide +kernel, rfl, by decide +kernel, by decide +kernel⟩
theorem ok_are_names {f : Addr} {fd : FuncData} (F : Fun K "are_names" "are_names" (topS 8) f fd) (B : BasT K mg) (hset : mg "set" = none) (GN : CalX P w K mg base CX0 1 "is_name" (spPred nameV)) : FnOk P w K mg base CX0 2 f fd ["texts"] spNames := by
  refine F.ok scNames (fun vs H Q E h => ?_) (fun cdv A outer s H vs Q E hr h => ?_)
  · obtain ⟨u, ns, rfl, _⟩ := h
    rfl
  · obtain ⟨u, ns, rfl, hu, hl, hz, q⟩ := h
    have hlen : (ns.map V.str).length ≤ 40000 := by rw [List.length_map]; omega
    have hlen2 : ((ns.map nameS).map V.bl).length = (ns.map V.str).length := by simp
    have hbs : (((ns.map V.str).length : Nat) : Int) = ((ns.length : Nat) : Int) := by rw [List.length_map]
    have each : ∀ {σ : L2.St} {H2 : Hp} {i : Nat} {x y : V}, (ns.map V.str)[i]? = some x → ((ns.map nameS).map V.bl)[i]? = some y → σ[1]? = some (some x) → Ev (tCallS (spPred nameV) (fun _ => E0) (tCons (tVar 1) tNil)) σ H2 y := fun hx hy hv => by
      obtain ⟨a1, a2⟩ := nms_at hz hx hy
      rw [a2]
      exact ev_cx (ea_cons (ev_var hv) ea_nil) (sp_pred a1)
    rcases id hu with hu1 | hu1
    · refine ⟨_, pss_one (ps_ret (pe_and (pe_callB (cr_all rfl) (by rfl) B.all (by decide +kernel) (pa_cons
          (pe_lc (own := [("text", 1)]) (g := gName 1) (tt := tYes) (te := tCallS (spPred nameV) (fun _ => E0) (tCons (tVar 1) tNil)) rfl scNames.nd (pi_list (pv 0)) (blkOk_by (own := [("text", 1)]) (N := ["texts", "text"]) (sc := defScope (topS 8)) (by decide +kernel))
            (fun _ _ _ _ _ => pg_name (i := 1) scNames.nd rfl (Or.inl rfl)) (fun _ _ _ _ _ => pts_nil) (fun _ _ _ _ _ => pe_cx (E := fun _ => E0) GN hr (by decide) (by rfl) at0 (pa_cons (pv 1) pa_nil))) pa_nil))
          (pe_one (pe_cmpR op_eq (pe_lenTx rfl (by rfl) B.len (by rfl) hset (pv 0)) (pe_callB call_len_seq (by rfl) B.len PySem.boot_len (pa_cons (pv 0) pa_nil)) (nomark _))))), ?_⟩
      refine s_ret (v := .bl (namesS ns)) (ev_andV (ev_all (bs := ns.map nameS) (el_lcLy (ev_var rfl) (sq_of hu1) hlen (fun _ => rfl) hlen2 (fun i x y H2 e2 hx hy => each hx hy rfl)))
        (fun _ => ev_differ (ev_var rfl) hu hl (ev_is (ev_cb (ea_cons (ev_var rfl) ea_nil) (fun H2 e2 Q' q' => ⟨u, _, rfl, .inl (sq_of (e2 _ _ hu1)), q' H2 (Ex.refl H2)⟩)) (by rw [hbs])))) q
    · refine ⟨_, pss_one (ps_ret (pe_and (pe_callB (cr_all rfl) (by rfl) B.all (by decide +kernel) (pa_cons
          (pe_lc (own := [("text", 1)]) (g := gName 1) (tt := tYes) (te := tCallS (spPred nameV) (fun _ => E0) (tCons (tVar 1) tNil)) rfl scNames.nd (pi_tup (pv 0)) (blkOk_by (own := [("text", 1)]) (N := ["texts", "text"]) (sc := defScope (topS 8)) (by decide +kernel))
            (fun _ _ _ _ _ => pg_name (i := 1) scNames.nd rfl (Or.inl rfl)) (fun _ _ _ _ _ => pts_nil) (fun _ _ _ _ _ => pe_cx (E := fun _ => E0) GN hr (by decide) (by rfl) at0 (pa_cons (pv 1) pa_nil))) pa_nil))
          (pe_one (pe_cmpR op_eq (pe_lenTx rfl (by rfl) B.len (by rfl) hset (pv 0)) (pe_callB call_len_seq (by rfl) B.len PySem.boot_len (pa_cons (pv 0) pa_nil)) (nomark _))))), ?_⟩
      refine s_ret (v := .bl (namesS ns)) (ev_andV (ev_all (bs := ns.map nameS) (el_lcTy (ev_var rfl) (st_of hu1) hlen (fun _ => rfl) hlen2 (fun i x y H2 e2 hx hy => each hx hy rfl)))
        (fun _ => ev_differ (ev_var rfl) hu hl (ev_is (ev_cb (ea_cons (ev_var rfl) ea_nil) (fun H2 e2 Q' q' => ⟨u, _, rfl, .inr (st_of (e2 _ _ hu1)), q' H2 (Ex.refl H2)⟩)) (by rw [hbs])))) q
end
end Fs

set_option Elab.async false
set_option linter.all false
set_option maxRecDepth 100000
set_option maxHeartbeats 2000000
namespace Fs
open PySem L2 Evl FsE FsC FsR FsT
def Opd.ok : Opd → Prop
  | .int _ => True
  | .nm z => z.length ≤ 40000
theorem Opd.opv {o : Opd} (h : o.ok) : OpV o.v := by
  cases o with
  | int i => exact True.intro
  | nm z => exact h
/-! what is refused -/
def badNew (z : Str) (k : Int) (r : Pr) : Option Str := if nameS z = true then (if seatsV (.int k) = true then badInit (.new z k r) else some "seats") else some "name"
def badWhen (l r : Opd) (y n : Pr) : Option Str := if operandV l.v = true then (if operandV r.v = true then badInit (.cond l r y n) else some "right") else some "left"
def opsOk (ops : List Opd) : Bool := decide (((ops.length : Nat) : Int) ≤ 4) && (ops.map fun o => operandV o.v).all id
def badCall (z : Str) (ops : List Opd) : Option Str := if nameS z = true then (if opsOk ops = true then badInit (.call z ops) else some "operands") else some "name"
/-! the promises -/
def spStop (C CB : Addr) : Sp := fun vs H Q E => vs = [] ∧ Made C CB none (.choice .nil) H Q E
def spNew (C CB : Addr) : Sp := fun vs H Q E => ∃ (z : Str) (k : Int) (b : Addr) (r : Pr), vs = [.str z, .int k, .ref b] ∧ z.length ≤ 40000 ∧ PrAt C H b r ∧ Made C CB (badNew z k r) (.new z k r) H Q E
def spWhen (C CB : Addr) : Sp := fun vs H Q E => ∃ (l r : Opd) (b c : Addr) (y n : Pr), vs = [l.v, r.v, .ref b, .ref c] ∧ l.ok ∧ r.ok ∧ PrAt C H b y ∧ PrAt C H c n ∧ Made C CB (badWhen l r y n) (.cond l r y n) H Q E
/-- a list or a tuple of the operands -/
def OpsAt (K : PySem.W.Frag) (H : Hp) (u : Addr) (ops : List Opd) : Prop := H u = some (.lst (ops.map Opd.v)) ∨ H u = some (.tup (ops.map Opd.v))
def spCall (K : PySem.W.Frag) (C CB : Addr) : Sp := fun vs H Q E => ∃ (z : Str) (u : Addr) (ops : List Opd), vs = [.str z, .ref u] ∧ z.length ≤ 40000 ∧ OpsAt K H u ops ∧ ops.length ≤ 90 ∧ (∀ o ∈ ops, o.ok) ∧ Made C CB (badCall z ops) (.call z ops) H Q E
/-- what the makers ask -/
structure MakT (P : Program) (w : World) (K : PySem.W.Frag) (mg : Str → Option Value) (base : Heap) (C CB : Addr) (k : Nat) : Prop where
  make : MakX P w K mg base (L2.CX P w) k "Process" C (spInit C CB)
  dem : CalX P w K mg base (L2.CX P w) k "demand" (spDemand CB)
  name : CalX P w K mg base CX0 1 "is_name" (spPred nameV)
  seats : CalX P w K mg base CX0 2 "is_seats" (spPred seatsV)
  operand : CalX P w K mg base CX0 3 "is_operand" (spPred operandV)
  int : CalX P w K mg base CX0 1 "is_int" (spPred intV)
  names : CalX P w K mg base CX0 2 "are_names" spNames
  mops : GC mg "MOST_OPERANDS" (.int 4)
  tuple : mg "tuple" = none
  len : mg "len" = none
  all : mg "all" = none
  hk : 3 ≤ k
section
variable {P : Program} {w : World} {K : PySem.W.Frag} {mg : Str → Option Value} {base : Heap} {C CB : Addr} {k : Nat}
theorem scStop : FnScope [] [] (defScope (inClass (topS 26) 1)) := ⟨rfl, rfl, rfl, by decide +kernel, rfl, by decide +kernel, by decide +kernel⟩
theorem ok_stop {f : Addr} {fd : FuncData} (F : Fun K "stop" "Process.stop" (inClass (topS 26) 1) f fd) (M : MakT P w K mg base C CB k) : FnOk P w K mg base (L2.CX P w) (k + 1 + 1) f fd [] (spStop C CB) := by
  refine F.okX scStop (fun vs H Q E h => ?_) (fun cdv A outer s H vs Q E hr h => ?_)
  · obtain ⟨rfl, _⟩ := h
    rfl
  · obtain ⟨rfl, m⟩ := h
    refine ⟨_, pss_one (ps_ret (pe_mx M.make hr (Nat.le_refl _) (by rfl) (passes_call (W := fun cls d _ H => E cls d H) (takes_of rfl rfl rfl rfl) (fun _ _ _ _ h => h)) (pa_cons pe_str (pa_cons (pe_tup pa_nil) pa_nil)))), ?_⟩
    exact ret_make (p := .choice .nil) ev_c (EvP.of (ps := []) (eu_tup ea_nil (by decide)) (by decide) rfl) m
theorem scNew : FnScope ["name", "seats", "rest"] ["name", "seats", "rest"] (defScope (inClass (topS 26) 3)) := ⟨rfl, rfl, rfl, by decide +kernel, rfl, by decide +kernel, by decide +kernel⟩
theorem Made.bad {o : Option Str} {f : Str} {p : Pr} {H : Hp} {Q : VK} {E : XK} (m : Made C CB o p H Q E) (h : o = some f) : Bad CB f H E := m.2 f h
theorem ok_new {f : Addr} {fd : FuncData} (F : Fun K "new" "Process.new" (inClass (topS 26) 3) f fd) (M : MakT P w K mg base C CB k) : FnOk P w K mg base (L2.CX P w) (k + 1 + 1) f fd ["name", "seats", "rest"] (spNew C CB) := by
  refine F.okX scNew (fun vs H Q E h => ?_) (fun cdv A outer s H vs Q E hr h => ?_)
  · obtain ⟨z, kk, b, r, rfl, _⟩ := h
    rfl
  · obtain ⟨z, kk, b, r, rfl, hz, hb, m⟩ := h
    have h3 := M.hk
    refine ⟨_, pss_cons (ps_expr (pe_cx (E := WE (fun cls d _ H => E cls d H)) M.dem hr (Nat.le_succ _) (by rfl) (fun σ => passAt (takes_of rfl rfl rfl rfl) σ) (pa_cons (pe_cx (E := fun _ => E0) M.name hr (by omega) (by rfl) at0 (pa_cons (pv 0) pa_nil)) (pa_cons pe_str pa_nil))))
      (pss_cons (ps_expr (pe_cx (E := WE (fun cls d _ H => E cls d H)) M.dem hr (Nat.le_succ _) (by rfl) (fun σ => passAt (takes_of rfl rfl rfl rfl) σ) (pa_cons (pe_cx (E := fun _ => E0) M.seats hr (by omega) (by rfl) at0 (pa_cons (pv 1) pa_nil)) (pa_cons pe_str pa_nil))))
      (pss_one (ps_ret (pe_mx M.make hr (Nat.le_refl _) (by rfl) (passes_call (W := fun cls d _ H => E cls d H) (takes_of rfl rfl rfl rfl) (fun _ _ _ _ h => h)) (pa_cons pe_str (pa_cons (pe_tup (pa_cons (pv 0) (pa_cons (pv 1) (pa_cons (pv 2) pa_nil)))) pa_nil)))))), ?_⟩
    refine q_demand (by decide +kernel) (ev_cx (ea_cons (ev_var rfl) ea_nil) (sp_pred (f := nameV) (v := .str z) hz)) (fun h1 H1 e1 => ?_) (fun h1 => m.bad (by unfold badNew; rw [if_neg (by rw [show nameS z = false from h1]; decide)]))
    refine q_demand (by decide +kernel) (ev_cx (ea_cons (ev_var rfl) ea_nil) (sp_pred (f := seatsV) (v := .int kk) True.intro)) (fun h2 H2 e2 => ?_) (fun h2 => (m.ex e1).bad (by unfold badNew; rw [if_pos (show nameS z = true from h1), if_neg (by rw [h2]; decide)]))
    have e : badNew z kk r = badInit (.new z kk r) := by unfold badNew; rw [if_pos (show nameS z = true from h1), if_pos h2]
    rw [e] at m
    exact ret_make (p := .new z kk r) ev_c (EvP.of (eu_tup (ea_cons (ev_var rfl) (ea_cons (ev_var rfl) (ea_cons (ev_var rfl) ea_nil))) (by show 3 ≤ 100000; decide)) (by show 3 ≤ 100; decide) ⟨b, rfl, hb.ex (e1.trans e2)⟩) (m.ex (e1.trans e2))
theorem scWhen : FnScope ["left", "right", "yes", "no"] ["left", "right", "yes", "no"] (defScope (inClass (topS 26) 4)) := ⟨rfl, rfl, rfl, by decide +kernel, rfl, by decide +kernel, by decide +kernel⟩
theorem ok_when {f : Addr} {fd : FuncData} (F : Fun K "when" "Process.when" (inClass (topS 26) 4) f fd) (M : MakT P w K mg base C CB k) : FnOk P w K mg base (L2.CX P w) (k + 1 + 1) f fd ["left", "right", "yes", "no"] (spWhen C CB) := by
  refine F.okX scWhen (fun vs H Q E h => ?_) (fun cdv A outer s H vs Q E hr h => ?_)
  · obtain ⟨l, r, b, c, y, n, rfl, _⟩ := h
    rfl
  · obtain ⟨l, r, b, c, y, n, rfl, hl, hrr, hb, hc, m⟩ := h
    have h3 := M.hk
    refine ⟨_, pss_cons (ps_expr (pe_cx (E := WE (fun cls d _ H => E cls d H)) M.dem hr (Nat.le_succ _) (by rfl) (fun σ => passAt (takes_of rfl rfl rfl rfl) σ) (pa_cons (pe_cx (E := fun _ => E0) M.operand hr (by omega) (by rfl) at0 (pa_cons (pv 0) pa_nil)) (pa_cons pe_str pa_nil))))
      (pss_cons (ps_expr (pe_cx (E := WE (fun cls d _ H => E cls d H)) M.dem hr (Nat.le_succ _) (by rfl) (fun σ => passAt (takes_of rfl rfl rfl rfl) σ) (pa_cons (pe_cx (E := fun _ => E0) M.operand hr (by omega) (by rfl) at0 (pa_cons (pv 1) pa_nil)) (pa_cons pe_str pa_nil))))
      (pss_one (ps_ret (pe_mx M.make hr (Nat.le_refl _) (by rfl) (passes_call (W := fun cls d _ H => E cls d H) (takes_of rfl rfl rfl rfl) (fun _ _ _ _ h => h)) (pa_cons pe_str (pa_cons (pe_tup (pa_cons (pv 0) (pa_cons (pv 1) (pa_cons (pv 2) (pa_cons (pv 3) pa_nil))))) pa_nil)))))), ?_⟩
    refine q_demand (by decide +kernel) (ev_cx (ea_cons (ev_var rfl) ea_nil) (sp_pred (f := operandV) (Opd.opv hl))) (fun h1 H1 e1 => ?_) (fun h1 => m.bad (by unfold badWhen; rw [if_neg (by rw [h1]; decide)]))
    refine q_demand (by decide +kernel) (ev_cx (ea_cons (ev_var rfl) ea_nil) (sp_pred (f := operandV) (Opd.opv hrr))) (fun h2 H2 e2 => ?_) (fun h2 => (m.ex e1).bad (by unfold badWhen; rw [if_pos h1, if_neg (by rw [h2]; decide)]))
    have e : badWhen l r y n = badInit (.cond l r y n) := by unfold badWhen; rw [if_pos h1, if_pos h2]
    rw [e] at m
    exact ret_make (p := .cond l r y n) ev_c (EvP.of (eu_tup (ea_cons (ev_var rfl) (ea_cons (ev_var rfl) (ea_cons (ev_var rfl) (ea_cons (ev_var rfl) ea_nil)))) (by show 4 ≤ 100000; decide)) (by show 4 ≤ 100; decide) ⟨b, c, rfl, hb.ex (e1.trans e2), hc.ex (e1.trans e2)⟩) (m.ex (e1.trans e2))
theorem scCall : FnScope ["name", "operands", "allowed", "part"] ["name", "operands"] (defScope (inClass (topS 26) 5)) := ⟨rfl, rfl, rfl, by decide +kernel, rfl, by decide +kernel, by decide +kernel⟩
theorem evp_call {σ : L2.St} {H : Hp} {z : Str} {u : Addr} {ops : List Opd} (h0 : σ[0]? = some (some (.str z))) (h1 : σ[1]? = some (some (.ref u))) (hu : OpsAt K H u ops) :
    EvP C (tTup (tCons (tVar 0) (tCons (tCB (fun xs H Q => ∃ p ys, xs = [V.ref p] ∧ ((SqL K H p ys ∧ ∀ l, H l = none → Q (.ref l) (upd H l (.tup ys))) ∨ SqT K H p ys ∧ Q (.ref p) H)) (tCons (tVar 1) tNil)) tNil))) σ H (.call z ops) := fun H1 e Q q => by
  rcases hu with hu | hu
  · refine ⟨_, h0, _, h1, u, ops.map Opd.v, rfl, .inl ⟨sq_of (e _ _ hu), fun l hl => ⟨(by show 2 ≤ sizeLine; decide), fun p hp => ?_⟩⟩⟩
    have hpl : l ≠ p := fun z => by rw [← z, upd_same] at hp; cases hp
    refine q p _ [.str z, .ref l] (fresh_back (Ex.new hl) hp) ((Ex.new hl).trans (Ex.new hp)) upd_same (by show 2 ≤ 100; decide) ⟨l, rfl, ?_⟩
    rw [upd_ne hpl]
    exact upd_same
  · refine ⟨_, h0, _, h1, u, ops.map Opd.v, rfl, .inr ⟨st_of (e _ _ hu), (by show 2 ≤ sizeLine; decide), fun p hp => ?_⟩⟩
    exact q p _ [.str z, .ref u] hp (Ex.new hp) upd_same (by show 2 ≤ 100; decide) ⟨u, rfl, Ex.new hp _ _ (e _ _ hu)⟩
theorem OpsAt.ex {H H' : Hp} {u : Addr} {ops : List Opd} (e : Ex H H') (h : OpsAt K H u ops) : OpsAt K H' u ops := h.imp (e _ _) (e _ _)
theorem ops_at {H : Hp} {ops : List Opd} (ho : ∀ o ∈ ops, o.ok) {i : Nat} {x y : V} (hx : (ops.map Opd.v)[i]? = some x) (hy : ((ops.map fun o => operandV o.v).map V.bl)[i]? = some y) : OpV x ∧ y = .bl (operandV x) := by
  rw [List.map_map, List.getElem?_map] at hy
  rw [List.getElem?_map] at hx
  cases hq : ops[i]? with
  | none =>
    rw [hq] at hx
    cases hx
  | some o =>
    rw [hq] at hx hy
    have ex : o.v = x := Option.some.inj hx
    have ey : V.bl (operandV o.v) = y := Option.some.inj hy
    subst ex
    exact ⟨Opd.opv (ho o (List.mem_of_getElem? hq)), ey.symm⟩
theorem ok_call {f : Addr} {fd : FuncData} (F : Fun K "call" "Process.call" (inClass (topS 26) 5) f fd) (M : MakT P w K mg base C CB k) : FnOk P w K mg base (L2.CX P w) (k + 1 + 1) f fd ["name", "operands"] (spCall K C CB) := by
  refine F.okX scCall (fun vs H Q E h => ?_) (fun cdv A outer s H vs Q E hr h => ?_)
  · obtain ⟨z, u, ops, rfl, _⟩ := h
    rfl
  · obtain ⟨z, u, ops, rfl, hz, hu, hl, ho, m⟩ := h
    have h3 := M.hk
    have bad1 : nameV (.str z) = false → Bad CB "name" H E := fun h1 => m.bad (by unfold badCall; rw [if_neg (by rw [show nameS z = false from h1]; decide)])
    have bad2 : nameV (.str z) = true → ∀ H1, Ex H H1 → opsOk ops = false → Bad CB "operands" H1 E := fun h1 H1 e1 h2 => (m.ex e1).bad (by unfold badCall; rw [if_pos (show nameS z = true from h1), if_neg (by rw [h2]; decide)])
    have good : nameV (.str z) = true → opsOk ops = true → ∀ H2, Ex H H2 → Made C CB (badInit (.call z ops)) (.call z ops) H2 Q E := fun h1 h2 H2 e2 => by
      have e : badCall z ops = badInit (.call z ops) := by unfold badCall; rw [if_pos (show nameS z = true from h1), if_pos h2]
      rw [e] at m
      exact m.ex e2
    have hlen : (ops.map Opd.v).length ≤ 40000 := by rw [List.length_map]; omega
    have hlen2 : ((ops.map fun o => operandV o.v).map V.bl).length = (ops.map Opd.v).length := by simp
    have hbs : ((((ops.map Opd.v).length : Nat) : Int)) = ((ops.length : Nat) : Int) := by rw [List.length_map]
    rcases hu with hu | hu
    · refine ⟨_, pss_cons (ps_expr (pe_cx (E := WE (fun cls d _ H => E cls d H)) M.dem hr (Nat.le_succ _) (by rfl) (fun σ => passAt (takes_of rfl rfl rfl rfl) σ) (pa_cons (pe_cx (E := fun _ => E0) M.name hr (by omega) (by rfl) at0 (pa_cons (pv 0) pa_nil)) (pa_cons pe_str pa_nil))))
        (pss_cons (ps_set (i := 2) scCall.nd rfl (Or.inl rfl) (pe_and (pe_cmpR op_le (pe_callB call_len_seq (by rfl) M.len PySem.boot_len (pa_cons (pv 1) pa_nil)) (C8.pe_gc (by rfl) M.mops) (nomark _)) (pe_one (pe_callB (cr_all rfl) (by rfl) M.all (by decide +kernel) (pa_cons
          (pe_lc (own := [("part", 3)]) (g := gName 3) (tt := tYes) (te := tCallS (spPred operandV) (fun _ => E0) (tCons (tVar 3) tNil)) rfl scCall.nd (pi_list (pv 1)) (blkOk_by (own := [("part", 3)]) (N := ["name", "operands", "allowed", "part"]) (sc := defScope (inClass (topS 26) 5)) (by decide +kernel))
            (fun _ _ _ _ _ => pg_name (i := 3) scCall.nd rfl (Or.inl rfl)) (fun _ _ _ _ _ => pts_nil) (fun _ _ _ _ _ => pe_cx (E := fun _ => E0) M.operand hr (by omega) (by rfl) at0 (pa_cons (pv 3) pa_nil))) pa_nil)))))
        (pss_cons (ps_expr (pe_cx (E := WE (fun cls d _ H => E cls d H)) M.dem hr (Nat.le_succ _) (by rfl) (fun σ => passAt (takes_of rfl rfl rfl rfl) σ) (pa_cons (pv 2) (pa_cons pe_str pa_nil))))
        (pss_one (ps_ret (pe_mx M.make hr (Nat.le_refl _) (by rfl) (passes_call (W := fun cls d _ H => E cls d H) (takes_of rfl rfl rfl rfl) (fun _ _ _ _ h => h)) (pa_cons pe_str (pa_cons (pe_tup (pa_cons (pv 0) (pa_cons (pe_callTy call_tuple_of (by rfl) M.tuple (by decide +kernel) (pa_cons (pv 1) pa_nil)) pa_nil))) pa_nil))))))), ?_⟩
      refine q_demand (by decide +kernel) (ev_cx (ea_cons (ev_var rfl) ea_nil) (sp_pred (f := nameV) (v := .str z) hz)) (fun h1 H1 e1 => ?_) bad1
      have hu1 := e1 _ _ hu
      refine q_asg (v := .bl (opsOk ops)) (ev_andV (ev_is (ev_op (ev_is (ev_cb (ea_cons (ev_var rfl) ea_nil) (fun H2 e2 Q' q' => ⟨u, _, rfl, .inl (sq_of (e2 _ _ hu1)), q' H2 (Ex.refl H2)⟩)) (by rw [hbs])) ev_c rv_I0) rfl) (fun _ => ev_all (bs := ops.map fun o => operandV o.v)
        (el_lcLy (ev_var rfl) (sq_of hu1) hlen (fun _ => rfl) hlen2 (fun i x y H2 e2 hx hy => ?_)))) (fun H2 e2 => ?_)
      · obtain ⟨a1, a2⟩ := ops_at (H := H) ho hx hy
        rw [a2]
        exact ev_cx (ea_cons (ev_var rfl) ea_nil) (sp_pred a1)
      · refine q_demand (by decide +kernel) (ev_var rfl) (fun h2 H3 e3 => ?_) (bad2 h1 H2 (e1.trans e2))
        exact ret_make (p := .call z ops) ev_c (evp_call rfl rfl (OpsAt.ex ((e1.trans e2).trans e3) (.inl hu))) (good h1 h2 H3 ((e1.trans e2).trans e3))
    · refine ⟨_, pss_cons (ps_expr (pe_cx (E := WE (fun cls d _ H => E cls d H)) M.dem hr (Nat.le_succ _) (by rfl) (fun σ => passAt (takes_of rfl rfl rfl rfl) σ) (pa_cons (pe_cx (E := fun _ => E0) M.name hr (by omega) (by rfl) at0 (pa_cons (pv 0) pa_nil)) (pa_cons pe_str pa_nil))))
        (pss_cons (ps_set (i := 2) scCall.nd rfl (Or.inl rfl) (pe_and (pe_cmpR op_le (pe_callB call_len_seq (by rfl) M.len PySem.boot_len (pa_cons (pv 1) pa_nil)) (C8.pe_gc (by rfl) M.mops) (nomark _)) (pe_one (pe_callB (cr_all rfl) (by rfl) M.all (by decide +kernel) (pa_cons
          (pe_lc (own := [("part", 3)]) (g := gName 3) (tt := tYes) (te := tCallS (spPred operandV) (fun _ => E0) (tCons (tVar 3) tNil)) rfl scCall.nd (pi_tup (pv 1)) (blkOk_by (own := [("part", 3)]) (N := ["name", "operands", "allowed", "part"]) (sc := defScope (inClass (topS 26) 5)) (by decide +kernel))
            (fun _ _ _ _ _ => pg_name (i := 3) scCall.nd rfl (Or.inl rfl)) (fun _ _ _ _ _ => pts_nil) (fun _ _ _ _ _ => pe_cx (E := fun _ => E0) M.operand hr (by omega) (by rfl) at0 (pa_cons (pv 3) pa_nil))) pa_nil)))))
        (pss_cons (ps_expr (pe_cx (E := WE (fun cls d _ H => E cls d H)) M.dem hr (Nat.le_succ _) (by rfl) (fun σ => passAt (takes_of rfl rfl rfl rfl) σ) (pa_cons (pv 2) (pa_cons pe_str pa_nil))))
        (pss_one (ps_ret (pe_mx M.make hr (Nat.le_refl _) (by rfl) (passes_call (W := fun cls d _ H => E cls d H) (takes_of rfl rfl rfl rfl) (fun _ _ _ _ h => h)) (pa_cons pe_str (pa_cons (pe_tup (pa_cons (pv 0) (pa_cons (pe_callTy call_tuple_of (by rfl) M.tuple (by decide +kernel) (pa_cons (pv 1) pa_nil)) pa_nil))) pa_nil))))))), ?_⟩
      refine q_demand (by decide +kernel) (ev_cx (ea_cons (ev_var rfl) ea_nil) (sp_pred (f := nameV) (v := .str z) hz)) (fun h1 H1 e1 => ?_) bad1
      have hu1 := e1 _ _ hu
      refine q_asg (v := .bl (opsOk ops)) (ev_andV (ev_is (ev_op (ev_is (ev_cb (ea_cons (ev_var rfl) ea_nil) (fun H2 e2 Q' q' => ⟨u, _, rfl, .inr (st_of (e2 _ _ hu1)), q' H2 (Ex.refl H2)⟩)) (by rw [hbs])) ev_c rv_I0) rfl) (fun _ => ev_all (bs := ops.map fun o => operandV o.v)
        (el_lcTy (ev_var rfl) (st_of hu1) hlen (fun _ => rfl) hlen2 (fun i x y H2 e2 hx hy => ?_)))) (fun H2 e2 => ?_)
      · obtain ⟨a1, a2⟩ := ops_at (H := H) ho hx hy
        rw [a2]
        exact ev_cx (ea_cons (ev_var rfl) ea_nil) (sp_pred a1)
      · refine q_demand (by decide +kernel) (ev_var rfl) (fun h2 H3 e3 => ?_) (bad2 h1 H2 (e1.trans e2))
        exact ret_make (p := .call z ops) ev_c (evp_call rfl rfl (OpsAt.ex ((e1.trans e2).trans e3) (.inr hu))) (good h1 h2 H3 ((e1.trans e2).trans e3))
def badOffer (z : Str) (s m : Int) (op : Opd) (ns : List Str) (r : Pr) : Option Str :=
  if nameS z = true then (if seatsV (.int m) = true then (if (decide (0 ≤ s) && decide (s < m)) = true then (if operandV op.v = true then (if (decide ((ns.length : Int) = m - 1) && namesS ns) = true then badInit (.choice (.cons z s m op ns r .nil)) else some "names") else some "operand") else some "seat") else some "seats") else some "channel"
def spOffer (C CB : Addr) : Sp := fun vs H Q E => ∃ (z : Str) (s m : Int) (op : Opd) (u : Addr) (ns : List Str) (b : Addr) (r : Pr), vs = [.str z, .int s, .int m, op.v, .ref u, .ref b] ∧ z.length ≤ 40000 ∧ op.ok ∧ NmsAt H u ns ∧ ns.length ≤ 90 ∧ (∀ y ∈ ns, y.length ≤ 40000) ∧ PrAt C H b r ∧
  Made C CB (badOffer z s m op ns r) (.choice (.cons z s m op ns r .nil)) H Q E
theorem scOffer : FnScope ["channel", "seat", "seats", "operand", "names", "rest"] ["channel", "seat", "seats", "operand", "names", "rest"] (defScope (inClass (topS 26) 2)) := ⟨rfl, rfl, rfl, by decide +kernel, rfl, by decide +kernel, by decide +kernel⟩
/-- the parts: one offer -/
theorem evp_offer {σ : L2.St} {H : Hp} {z : Str} {s m : Int} {op : Opd} {u b : Addr} {ns : List Str} {r : Pr} (h0 : σ[0]? = some (some (.str z))) (h1 : σ[1]? = some (some (.int s))) (h2 : σ[2]? = some (some (.int m))) (h3 : σ[3]? = some (some op.v)) (h4 : σ[4]? = some (some (.ref u))) (h5 : σ[5]? = some (some (.ref b)))
    (hu : NmsAt H u ns) (hb : PrAt C H b r) : EvP C (tTup (tCons (tTup (tCons (tVar 0) (tCons (tVar 1) (tCons (tVar 2) (tCons (tVar 3) (tCons (tCB (fun xs H Q => ∃ p ys, xs = [V.ref p] ∧ ((SqL K H p ys ∧ ∀ l, H l = none → Q (.ref l) (upd H l (.tup ys))) ∨ SqT K H p ys ∧ Q (.ref p) H)) (tCons (tVar 4) tNil)) (tCons (tVar 5) tNil)))))))
      tNil)) σ H (.choice (.cons z s m op ns r .nil)) := fun H1 e Q q => by
  have one : ∀ (l : Addr) (H2 : Hp), Ex H1 H2 → H2 l = some (.tup (ns.map V.str)) → ∀ o : Addr, H2 o = none → ∀ p : Addr, upd H2 o (.tup [.str z, .int s, .int m, op.v, .ref l, .ref b]) p = none → Q (.ref p) (upd (upd H2 o (.tup [.str z, .int s, .int m, op.v, .ref l, .ref b])) p (.tup [.ref o])) := fun l H2 e2 hl o ho p hp => by
    have e3 : Ex H2 (upd (upd H2 o (.tup [.str z, .int s, .int m, op.v, .ref l, .ref b])) p (.tup [.ref o])) := (Ex.new ho).trans (Ex.new hp)
    refine q p _ [.ref o] (fresh_back (e2.trans (Ex.new ho)) hp) (e2.trans e3) upd_same (by show 1 ≤ 100; decide) ?_
    show OfsAt C _ [.ref o] (.cons z s m op ns r .nil)
    unfold OfsAt
    exact ⟨o, l, b, [], rfl, Ex.new hp _ _ upd_same, e3 _ _ hl, hb.ex ((e.trans e2).trans e3), by unfold OfsAt; rfl⟩
  rcases hu with hu | hu
  · exact ⟨_, h0, _, h1, _, h2, _, h3, _, h4, u, ns.map V.str, rfl, .inl ⟨sq_of (e _ _ hu), fun l hl => ⟨_, h5, by show 6 ≤ sizeLine; decide, fun o ho => ⟨by show 1 ≤ sizeLine; decide, fun p hp => one l _ (Ex.new hl) upd_same o ho p hp⟩⟩⟩⟩
  · exact ⟨_, h0, _, h1, _, h2, _, h3, _, h4, u, ns.map V.str, rfl, .inr ⟨st_of (e _ _ hu), _, h5, by show 6 ≤ sizeLine; decide, fun o ho => ⟨by show 1 ≤ sizeLine; decide, fun p hp => one u _ (Ex.refl _) (e _ _ hu) o ho p hp⟩⟩⟩
theorem ok_offer {f : Addr} {fd : FuncData} (F : Fun K "offer" "Process.offer" (inClass (topS 26) 2) f fd) (M : MakT P w K mg base C CB k) : FnOk P w K mg base (L2.CX P w) (k + 1 + 1) f fd ["channel", "seat", "seats", "operand", "names", "rest"] (spOffer C CB) := by
  refine F.okX scOffer (fun vs H Q E h => ?_) (fun cdv A outer s H vs Q E hr h => ?_)
  · obtain ⟨z, s', m, op, u, ns, b, r, rfl, _⟩ := h
    rfl
  · obtain ⟨z, s', m, op, u, ns, b, r, rfl, hz, ho, hu, hl, hy, hb, md⟩ := h
    have h3 := M.hk
    have hlen : ∀ {H2 : Hp}, Ex H H2 → Ev (tCB (fun xs H Q => ∃ a ys, xs = [V.ref a] ∧ (SqL K H a ys ∨ SqT K H a ys) ∧ Q (.int (ys.length : Nat)) H) (tCons (tVar 4) tNil)) [some (.str z), some (.int s'), some (.int m), some op.v, some (.ref u), some (.ref b)] H2 (.int (ns.length : Int)) := fun e2 =>
      ev_is (ev_cb (ea_cons (ev_var rfl) ea_nil) (fun H5 e5 Q' q' => ⟨u, _, rfl, (hu.ex (e2.trans e5)).sq, q' H5 (Ex.refl H5)⟩)) (by rw [List.length_map])
    refine ⟨_, pss_cons (ps_expr (pe_cx (E := WE (fun cls d _ H => E cls d H)) M.dem hr (Nat.le_succ _) (by rfl) (fun σ => passAt (takes_of rfl rfl rfl rfl) σ) (pa_cons (pe_cx (E := fun _ => E0) M.name hr (by omega) (by rfl) at0 (pa_cons (pv 0) pa_nil)) (pa_cons pe_str pa_nil))))
      (pss_cons (ps_expr (pe_cx (E := WE (fun cls d _ H => E cls d H)) M.dem hr (Nat.le_succ _) (by rfl) (fun σ => passAt (takes_of rfl rfl rfl rfl) σ) (pa_cons (pe_cx (E := fun _ => E0) M.seats hr (by omega) (by rfl) at0 (pa_cons (pv 2) pa_nil)) (pa_cons pe_str pa_nil))))
      (pss_cons (ps_expr (pe_cx (E := WE (fun cls d _ H => E cls d H)) M.dem hr (Nat.le_succ _) (by rfl) (fun σ => passAt (takes_of rfl rfl rfl rfl) σ) (pa_cons (pe_and (pe_cx (E := fun _ => E0) M.int hr (by omega) (by rfl) at0 (pa_cons (pv 1) pa_nil)) (pe_one (pe_chain op_le op_lt pe_int (pv 1) (pv 2)))) (pa_cons pe_str pa_nil))))
      (pss_cons (ps_expr (pe_cx (E := WE (fun cls d _ H => E cls d H)) M.dem hr (Nat.le_succ _) (by rfl) (fun σ => passAt (takes_of rfl rfl rfl rfl) σ) (pa_cons (pe_cx (E := fun _ => E0) M.operand hr (by omega) (by rfl) at0 (pa_cons (pv 3) pa_nil)) (pa_cons pe_str pa_nil))))
      (pss_cons (ps_expr (pe_cx (E := WE (fun cls d _ H => E cls d H)) M.dem hr (Nat.le_succ _) (by rfl) (fun σ => passAt (takes_of rfl rfl rfl rfl) σ) (pa_cons (pe_and (pe_cmpR op_eq (pe_callB call_len_seq (by rfl) M.len PySem.boot_len (pa_cons (pv 4) pa_nil)) (pe_op op_sub (pv 2) pe_int) (nomark _)) (pe_one (pe_cx (E := fun _ => E0) M.names hr (by omega) (by rfl) at0 (pa_cons (pv 4) pa_nil)))) (pa_cons pe_str pa_nil))))
      (pss_one (ps_ret (pe_mx M.make hr (Nat.le_refl _) (by rfl) (passes_call (W := fun cls d _ H => E cls d H) (takes_of rfl rfl rfl rfl) (fun _ _ _ _ h => h)) (pa_cons pe_str (pa_cons (pe_tup (pa_cons (pe_tup (pa_cons (pv 0) (pa_cons (pv 1) (pa_cons (pv 2) (pa_cons (pv 3) (pa_cons (pe_callTy call_tuple_of (by rfl) M.tuple (by decide +kernel) (pa_cons (pv 4) pa_nil)) (pa_cons (pv 5) pa_nil))))))) pa_nil)) pa_nil))))))))), ?_⟩
    refine q_demand (by decide +kernel) (ev_cx (ea_cons (ev_var rfl) ea_nil) (sp_pred (f := nameV) (v := .str z) hz)) (fun h1 H1 e1 => ?_) (fun h1 => md.bad (by unfold badOffer; rw [if_neg (by rw [show nameS z = false from h1]; decide)]))
    have g1 : nameS z = true := h1
    refine q_demand (by decide +kernel) (ev_cx (ea_cons (ev_var rfl) ea_nil) (sp_pred (f := seatsV) (v := .int m) True.intro)) (fun h2 H2 e2 => ?_) (fun h2 => (md.ex e1).bad (by unfold badOffer; rw [if_pos g1, if_neg (by rw [h2]; decide)]))
    have x2 := e1.trans e2
    refine q_demand (b := decide (0 ≤ s') && decide (s' < m)) (by decide +kernel) (ev_andV (a := true) (ev_cx (ea_cons (ev_var rfl) ea_nil) (sp_pred (f := intV) (v := .int s') True.intro)) (fun _ => ev_chain ev_c (ev_var rfl) rv_I0 (fun _ => ev_var rfl) (fun _ => rv_I0))) (fun h4 H3 e3 => ?_) (fun h4 => (md.ex x2).bad (by unfold badOffer; rw [if_pos g1, if_pos h2, if_neg (by rw [h4]; decide)]))
    have x3 := x2.trans e3
    refine q_demand (by decide +kernel) (ev_cx (ea_cons (ev_var rfl) ea_nil) (sp_pred (f := operandV) (v := op.v) (Opd.opv ho))) (fun h5 H4 e4 => ?_) (fun h5 => (md.ex x3).bad (by unfold badOffer; rw [if_pos g1, if_pos h2, if_pos h4, if_neg (by rw [h5]; decide)]))
    have x4 := x3.trans e4
    refine q_demand (b := decide ((ns.length : Int) = m - 1) && namesS ns) (by decide +kernel) (ev_andV (ev_is (ev_op (hlen x4) (ev_op (ev_var rfl) ev_c rv_I0) (rv_eq rfl)) (congrArg V.bl (decide_eq_decide.mpr ⟨fun z => (V.int.inj z), fun z => congrArg V.int z⟩))) (fun _ => ev_cx (ea_cons (ev_var rfl) ea_nil) (fun H5 e5 Q' q' E' => ⟨u, ns, rfl, hu.ex (x4.trans e5), hl, hy, fun H6 e6 => q' H6 e6⟩)))
      (fun h6 H5 e5 => ?_) (fun h6 => (md.ex x4).bad (by unfold badOffer; rw [if_pos g1, if_pos h2, if_pos h4, if_pos h5, if_neg (by rw [h6]; decide)]))
    have x5 := x4.trans e5
    have e : badOffer z s' m op ns r = badInit (.choice (.cons z s' m op ns r .nil)) := by unfold badOffer; rw [if_pos g1, if_pos h2, if_pos h4, if_pos h5, if_pos h6]
    rw [e] at md
    exact ret_make (p := .choice (.cons z s' m op ns r .nil)) ev_c (evp_offer rfl rfl rfl rfl rfl rfl (hu.ex x5) (hb.ex x5)) (md.ex x5)
end
end Fs

set_option Elab.async false
set_option linter.all false
set_option maxRecDepth 100000
set_option maxHeartbeats 4000000
namespace Fs
open PySem L2 Evl FsE FsC FsR FsT
/-! ### sums of choices -/
def Ofs.app : Ofs → Ofs → Ofs
  | .nil, qs => qs
  | .cons c s m op ns r os, qs => .cons c s m op ns r (os.app qs)
def Pr.isCh : Pr → Bool
  | .choice _ => true
  | _ => false
def Pr.ofs : Pr → Ofs
  | .choice os => os
  | _ => .nil
theorem Pr.ch_eq {p : Pr} (h : p.isCh = true) : p = .choice p.ofs := by
  cases p <;> first | rfl | cases h
theorem kind_ch (p : Pr) : decide (V.str p.kind = V.str "choice") = p.isCh := by
  cases p with
  | choice os =>
    show decide (V.str ("choice" : Str) = V.str "choice") = true
    decide +kernel
  | new n k r =>
    show decide (V.str ("new" : Str) = V.str "choice") = false
    decide +kernel
  | cond l r y n =>
    show decide (V.str ("if" : Str) = V.str "choice") = false
    decide +kernel
  | call n ops =>
    show decide (V.str ("call" : Str) = V.str "choice") = false
    decide +kernel
theorem Ofs.app_nil : ∀ os : Ofs, os.app .nil = os
  | .nil => rfl
  | .cons c s m op ns r os => congrArg (Ofs.cons c s m op ns r) (Ofs.app_nil os)
theorem OfsAt.app {C : Addr} {H : Hp} : ∀ {os qs : Ofs} {xs ys : List V}, OfsAt C H xs os → OfsAt C H ys qs → OfsAt C H (xs ++ ys) (os.app qs)
  | .nil, qs, xs, ys, h, g => by
    unfold OfsAt at h
    subst h
    exact g
  | .cons c s m op ns r os, qs, xs, ys, h, g => by
    unfold OfsAt at h
    obtain ⟨o, u, b, zs, rfl, h1, h2, h3, h4⟩ := h
    show OfsAt C H (.ref o :: (zs ++ ys)) (.cons c s m op ns r (os.app qs))
    unfold OfsAt
    exact ⟨o, u, b, zs ++ ys, rfl, h1, h2, h3, OfsAt.app h4 g⟩
theorem Ofs.app_len : ∀ os qs : Ofs, (os.app qs).len = os.len + qs.len
  | .nil, qs => by
    show qs.len = 0 + qs.len
    omega
  | .cons c s m op ns r os, qs => by
    have ih := Ofs.app_len os qs
    show (os.app qs).len + 1 = os.len + 1 + qs.len
    omega
def badAdd (p r : Pr) : Option Str := if (p.isCh && r.isCh) = true then (if p.ofs.len + r.ofs.len ≤ 6 then badInit (.choice (p.ofs.app r.ofs)) else some "offers") else some "choice"
def spChoice (C : Addr) : Sp := fun vs H Q _ => ∃ (a : Addr) (p : Pr), vs = [.ref a] ∧ PrAt C H a p ∧ RetV (.bl p.isCh) H Q
def spAdd (C CB : Addr) : Sp := fun vs H Q E => ∃ (a b : Addr) (p r : Pr), vs = [.ref a, .ref b] ∧ PrAt C H a p ∧ PrAt C H b r ∧ p.ofs.len ≤ 40 ∧ r.ofs.len ≤ 40 ∧ Made C CB (badAdd p r) (.choice (p.ofs.app r.ofs)) H Q E
section
variable {P : Program} {w : World} {K : PySem.W.Frag} {mg : Str → Option Value} {base : Heap} {C CB : Addr}
/-- x = t1 + t2, two tuples -/
theorem q_cat {σ : L2.St} {H : Hp} {ta tb : TE} {t1 t2 : Addr} {xs ys : List V} {i : Nat} {tz : TS} {D : Ends} (h1 : Ev ta σ H (.ref t1)) (h2 : Ev tb σ H (.ref t2)) (g1 : H t1 = some (.tup xs)) (g2 : H t2 = some (.tup ys)) (hl : xs.length + ys.length ≤ 100000)
    (k : ∀ t H2, Ex H H2 → H2 t = some (.tup (xs ++ ys)) → tz D (σ.set i (some (.ref t))) H2) : tSeq (tAsg (tOp (rCatA K) ta tb) (gName i)) tz D σ H :=
  h1 H (Ex.refl H) _ fun H1 e1 => h2 H1 e1 _ fun H2 e2 => ⟨t1, t2, xs, ys, rfl, rfl, st_of ((e1.trans e2) _ _ g1), st_of ((e1.trans e2) _ _ g2), sz_of hl,
    fun hx => k t2 H2 (e1.trans e2) (by rw [hx]; exact (e1.trans e2) _ _ g2), fun _ hy => k t1 H2 (e1.trans e2) (by rw [hy, List.append_nil]; exact (e1.trans e2) _ _ g1), fun _ _ p hp => k p _ ((e1.trans e2).trans (Ex.new hp)) upd_same⟩
/-- Process(kind, parts), parts a name -/
theorem ret_makeV {σ : L2.St} {H : Hp} {tk : TE} {i : Nat} {p : Pr} {t : Addr} {ps : List V} {D : Ends} {E : XK} (hkd : Ev tk σ H (.str p.kind)) (hσ : σ[i]? = some (some (.ref t))) (ht : H t = some (.tup ps)) (hl : ps.length ≤ 100) (hP : PartsAt C H ps p) (m : Made C CB (badInit p) p H D.rt E) :
    tRet (tMake C (spInit C CB) [] E (tCons tk (tCons (tVar i) tNil))) D σ H :=
  hkd H (Ex.refl H) _ fun H1 e1 => ⟨_, hσ, fun x dx hx hdx hne => by
    have x0 : Ex H1 (upd (upd H1 dx (.own x)) x (.ins C dx [])) := by
      intro b o hb
      rw [upd_ne (ne_of_none hb hx), upd_ne (ne_of_none hb hdx)]
      exact hb
    refine ⟨x, dx, p, t, ps, H1, rfl, upd_same, hx, x0, e1 _ _ ht, hl, hP.ex e1, fun hb H' e' h' => ⟨rfl, ?_⟩, fun f hf => ((m.2 f hf).ex e1)⟩
    exact m.1 hb x H' (fresh_back e1 hx) (e1.trans e') (PrAt.mk ⟨dx, h'⟩ (e' _ _ (e1 _ _ ht)) ((hP.ex e1).ex e'))⟩
theorem scChoice : FnScope ["term"] ["term"] (defScope (topS 28)) := ⟨rfl, rfl, rfl, by decide +kernel, rfl, by decide +kernel, by decide +kernel⟩
theorem ok_is_choice {f : Addr} {fd : FuncData} (F : Fun K "is_choice" "is_choice" (topS 28) f fd) (B : BasT K mg) (T : TerT K mg C CB) : FnOk P w K mg base CX0 1 f fd ["term"] (spChoice C) := by
  refine F.ok scChoice (fun vs H Q E h => ?_) (fun cdv A outer s H vs Q E hr h => ?_)
  · obtain ⟨a, p, rfl, _⟩ := h
    rfl
  · obtain ⟨a, p, rfl, ha, q⟩ := h
    refine ⟨_, pss_one (ps_ret (pe_and (pe_callB (id := "isinstance") (r := rIsi K) call_isi (by rfl) B.isinst (by decide +kernel) (pa_cons (pv 0) (pa_cons (pe_glob (v := .ref C) (by rfl) T.mgC rfl) pa_nil))) (pe_one (pe_cmpR op_eq (pe_fld (pv 0) rfl) pe_str (nomark _))))), ?_⟩
    obtain ⟨t, ps, ⟨dx, h1⟩, _⟩ := ha.out
    refine s_ret (v := .bl p.isCh) (ev_is (ev_andV (a := true) (ev_cb (ea_cons (ev_var rfl) (ea_cons ev_c ea_nil)) (rc_isiOwn (tyx_pr T ha) kOwn)) (fun _ => ev_op (ev_fld (ev_var rfl) h1 T.cl T.nK pf_kind) ev_c (rv_eq rfl))) ?_) q
    rw [kind_ch]
    rfl
theorem scAdd : FnScope ["self", "other", "offers"] ["self", "other"] (defScope (inClass (topS 26) 7)) := ⟨rfl, rfl, rfl, by decide +kernel, rfl, by decide +kernel, by decide +kernel⟩
theorem ok_add {f : Addr} {fd : FuncData} {k : Nat} (F : Fun K "__add__" "Process.__add__" (inClass (topS 26) 7) f fd) (T : TerT K mg C CB) (M : MakT P w K mg base C CB k) (GI : CalX P w K mg base CX0 1 "is_choice" (spChoice C)) (mo : GC mg "MOST_OFFERS" (.int 6)) : FnOk P w K mg base (L2.CX P w) (k + 1 + 1) f fd ["self", "other"] (spAdd C CB) := by
  refine F.okX scAdd (fun vs H Q E h => ?_) (fun cdv A outer s H vs Q E hr h => ?_)
  · obtain ⟨a, b, p, r, rfl, _⟩ := h
    rfl
  · obtain ⟨a, b, p, r, rfl, ha, hb, lp, lr, md⟩ := h
    have h3 := M.hk
    refine ⟨_, pss_cons (ps_expr (pe_cx (E := WE (fun cls d _ H => E cls d H)) M.dem hr (Nat.le_succ _) (by rfl) (fun σ => passAt (takes_of rfl rfl rfl rfl) σ) (pa_cons (pe_and (pe_cx (E := fun _ => E0) GI hr (by omega) (by rfl) at0 (pa_cons (pv 0) pa_nil)) (pe_one (pe_cx (E := fun _ => E0) GI hr (by omega) (by rfl) at0 (pa_cons (pv 1) pa_nil)))) (pa_cons pe_str pa_nil))))
      (pss_cons (ps_set (i := 2) scAdd.nd rfl (Or.inl rfl) (pe_op op_catA (pe_fld (pv 0) rfl) (pe_fld (pv 1) rfl)))
      (pss_cons (ps_expr (pe_cx (E := WE (fun cls d _ H => E cls d H)) M.dem hr (Nat.le_succ _) (by rfl) (fun σ => passAt (takes_of rfl rfl rfl rfl) σ) (pa_cons (pe_cmpR op_le (pe_callB call_len_seq (by rfl) M.len PySem.boot_len (pa_cons (pv 2) pa_nil)) (C8.pe_gc (by rfl) mo) (nomark _)) (pa_cons pe_str pa_nil))))
      (pss_one (ps_ret (pe_mx M.make hr (Nat.le_refl _) (by rfl) (passes_call (W := fun cls d _ H => E cls d H) (takes_of rfl rfl rfl rfl) (fun _ _ _ _ h => h)) (pa_cons pe_str (pa_cons (pv 2) pa_nil))))))), ?_⟩
    refine q_demand (b := p.isCh && r.isCh) (by decide +kernel) (ev_andV (ev_cx (ea_cons (ev_var rfl) ea_nil) (fun H1 e1 Q' q' E' => ⟨a, p, rfl, ha.ex e1, fun H2 e2 => q' H2 e2⟩)) (fun _ => ev_cx (ea_cons (ev_var rfl) ea_nil) (fun H1 e1 Q' q' E' => ⟨b, r, rfl, hb.ex e1, fun H2 e2 => q' H2 e2⟩))) (fun h1 H1 e1 => ?_) (fun h1 => md.bad (by unfold badAdd; rw [if_neg (by rw [h1]; decide)]))
    have hpc : p.isCh = true := (Bool.and_eq_true_iff.mp h1).1
    have hrc : r.isCh = true := (Bool.and_eq_true_iff.mp h1).2
    have ha1 : PrAt C H1 a (.choice p.ofs) := Pr.ch_eq hpc ▸ ha.ex e1
    have hb1 : PrAt C H1 b (.choice r.ofs) := Pr.ch_eq hrc ▸ hb.ex e1
    obtain ⟨t1, xs, ⟨dx, g1⟩, g2, g3⟩ := ha1.out
    obtain ⟨t2, ys, ⟨dy, j1⟩, j2, j3⟩ := hb1.out
    have g3' : OfsAt C H1 xs p.ofs := g3
    have j3' : OfsAt C H1 ys r.ofs := j3
    have l1 := g3'.len
    have l2 := j3'.len
    have hob : badAdd p r = if p.ofs.len + r.ofs.len ≤ 6 then badInit (.choice (p.ofs.app r.ofs)) else some "offers" := by unfold badAdd; rw [if_pos h1]
    rw [hob] at md
    refine q_cat (ev_fld (ev_var rfl) g1 T.cl T.nP pf_parts) (ev_fld (ev_var rfl) j1 T.cl T.nP pf_parts) g2 j2 (by omega) (fun t H2 e2 ht => ?_)
    have hlen : (((xs ++ ys).length : Nat) : Int) = ((p.ofs.len + r.ofs.len : Nat) : Int) := by rw [List.length_append, l1, l2]
    refine q_demand (b := decide (((p.ofs.len + r.ofs.len : Nat) : Int) ≤ 6)) (by decide +kernel) (ev_op (ev_is (ev_cb (ea_cons (ev_var rfl) ea_nil) (fun H3 e3 Q' q' => ⟨t, _, rfl, .inr (st_of (e3 _ _ ht)), q' H3 (Ex.refl H3)⟩)) (by rw [hlen])) ev_c rv_I0) (fun h2 H3 e3 => ?_) (fun h2 => ?_)
    · have h2' : p.ofs.len + r.ofs.len ≤ 6 := by
        have : (((p.ofs.len + r.ofs.len : Nat) : Int)) ≤ 6 := by simpa using h2
        omega
      rw [if_pos h2'] at md
      have x3 := (e1.trans e2).trans e3
      exact ret_makeV (p := .choice (p.ofs.app r.ofs)) ev_c rfl (e3 _ _ ht) (by rw [List.length_append]; omega) (OfsAt.app (g3'.ex (e2.trans e3)) (j3'.ex (e2.trans e3))) (md.ex x3)
    · have h2' : ¬ p.ofs.len + r.ofs.len ≤ 6 := by
        have : ¬ (((p.ofs.len + r.ofs.len : Nat) : Int)) ≤ 6 := by simpa using h2
        omega
      rw [if_neg h2'] at md
      exact (md.ex (e1.trans e2)).bad rfl
end
end Fs

set_option Elab.async false
set_option linter.all false
set_option maxRecDepth 100000
set_option maxHeartbeats 2000000
namespace Fs
open PySem L2 Evl FsE FsC
structure LawT (K : PySem.W.Frag) (mg : Str → Option Value) : Prop where
  len : mg "len" = none
  int : mg "int" = none
  abs : mg "abs" = none
  range : mg "range" = none
section
variable {P : Program} {w : World} {K : PySem.W.Frag} {mg : Str → Option Value} {base : Heap}
theorem rc_int {K : PySem.W.Frag} {i : Int} {H : Hp} : RC (fun xs H Q => (∃ i, xs = [V.int i] ∧ Q (.int i) H) ∨ ∃ k, xs = [V.bl k] ∧ Q (.int (if k then 1 else 0)) H) [.int i] H (.int i) := fun H1 _ Q q => .inl ⟨i, rfl, q H1 (Ex.refl H1)⟩
/-- _law_cell_at(script, k): some int -/
def spCellAt (K : PySem.W.Frag) : Sp := fun vs H Q _ => ∃ (a : Addr) (ns : List Int) (k : Nat), vs = [.ref a, .int (k : Int)] ∧ SqL K H a (ns.map V.int) ∧ ∀ i : Int, RetV (.int i) H Q
theorem scCellAt : FnScope ["_law_script", "_law_k"] ["_law_script", "_law_k"] (defScope (topS 32)) := ⟨rfl, rfl, rfl, by decide +kernel, rfl, by decide +kernel, by decide +kernel⟩
theorem ok_cell_at {f : Addr} {fd : FuncData} (F : Fun K "_law_cell_at" "_law_cell_at" (topS 32) f fd) (T : LawT K mg) : FnOk P w K mg base CX0 1 f fd ["_law_script", "_law_k"] (spCellAt K) := by
  refine F.ok scCellAt (fun vs H Q E h => ?_) (fun cdv A outer s H vs Q E hr h => ?_)
  · obtain ⟨a, ns, k, rfl, _⟩ := h
    rfl
  · obtain ⟨a, ns, k, rfl, hS, q⟩ := h
    refine ⟨_, pss_cons (ps_if (pt_cmpR op_lt (pv 1) (pe_callB call_len_seq (by rfl) T.len PySem.boot_len (pa_cons (pv 0) pa_nil)) (nomark _)) (pss_one (ps_ret (pe_ix ix_list (pv 0) (pv 1) (fun _ _ => rfl)))) pss_nil) (pss_one (ps_ret pe_int)), ?_⟩
    refine q_when (b := decide ((k : Int) < ((ns.map V.int).length : Nat))) (et_test (ev_op (ev_var rfl) (ev_cb (ea_cons (ev_var rfl) ea_nil) (fun H2 e2 Q' q' => ⟨a, _, rfl, .inl (ex_l e2 hS), q' H2 (Ex.refl H2)⟩)) rv_I0)) (fun hb H1 e1 => ?_) (fun hb H1 e1 => ?_)
    · have hk : k < ns.length := by
        have : (k : Int) < ((ns.map V.int).length : Nat) := by simpa using hb
        rw [List.length_map] at this
        omega
      refine s_ret (v := .int ns[k]) (ev_op (ev_var rfl) (ev_var rfl) (rv_ixL (ex_l e1 hS) (atI_nat (by rw [List.getElem?_map, List.getElem?_eq_getElem hk]; rfl)))) (fun H2 e2 => q _ H2 (e1.trans e2))
    · exact s_ret ev_c (fun H2 e2 => q _ H2 (e1.trans e2))
/-- _law_mixed(cell, k): some int -/
def spMixed : Sp := fun vs H Q _ => ∃ (c : Int) (k : Nat), vs = [.int c, .int (k : Int)] ∧ k ≤ 1000 ∧ ∀ i : Int, RetV (.int i) H Q
theorem scMixed : FnScope ["_law_cell", "_law_k"] ["_law_cell", "_law_k"] (defScope (topS 33)) := ⟨rfl, rfl, rfl, by decide +kernel, rfl, by decide +kernel, by decide +kernel⟩
theorem ok_mixed {f : Addr} {fd : FuncData} (F : Fun K "_law_mixed" "_law_mixed" (topS 33) f fd) (T : LawT K mg) : FnOk P w K mg base CX0 1 f fd ["_law_cell", "_law_k"] spMixed := by
  refine F.ok scMixed (fun vs H Q E h => ?_) (fun cdv A outer s H vs Q E hr h => ?_)
  · obtain ⟨c, k, rfl, _⟩ := h
    rfl
  · obtain ⟨c, k, rfl, hk, q⟩ := h
    refine ⟨_, pss_one (ps_ret (pe_op op_mod (pe_op op_mul (pe_callTy call_int1 (by rfl) T.int (by decide +kernel) (pa_cons (pe_op op_add (pe_op op_mod (pe_op op_pow (pe_op op_add (pe_op op_add (pe_op op_mod (pe_callTy call_int1 (by rfl) T.int (by decide +kernel) (pa_cons (pv 0) pa_nil)) pe_int) (pe_op op_mul pe_int (pv 1))) pe_int) pe_int) pe_int) (pv 1)) pa_nil)) pe_int) pe_int)), ?_⟩
    have h1 := Int.emod_nonneg c (b := 2147483647) (by decide)
    have h2 := Int.emod_lt_of_pos c (b := 2147483647) (by decide)
    refine ⟨.int c, rfl, .inl ⟨c, rfl, c, 2147483647, rfl, rfl, (by decide : (0 : Int) < 2147483647), ?_⟩⟩
    refine ⟨.int (k : Int), rfl, 7919, (k : Int), rfl, rfl, .inl ⟨by decide, by decide⟩, ?_⟩
    refine ⟨c % 2147483647, 7919 * (k : Int), rfl, rfl, c % 2147483647 + 7919 * (k : Int), 104729, rfl, rfl, ?_⟩
    refine ⟨c % 2147483647 + 7919 * (k : Int) + 104729, 5, rfl, rfl, ⟨by decide, by decide, by omega⟩, ?_⟩
    refine ⟨_, 2147483647, rfl, rfl, (by decide : (0 : Int) < 2147483647), ?_⟩
    refine ⟨.int (k : Int), rfl, _, (k : Int), rfl, rfl, .inl ⟨_, rfl, _, 40692, rfl, rfl, .inr ⟨by decide, by decide⟩, ?_⟩⟩
    refine ⟨_, 2147483629, rfl, rfl, (by decide : (0 : Int) < 2147483629), ?_⟩
    exact q _ H (Ex.refl H)
/-- _law_row(cell, many): so many ints from 0 to 999 -/
def RowOk (row : List Int) : Prop := ∀ v ∈ row, 0 ≤ v ∧ v < 1000
def spRow : Sp := fun vs H Q _ => ∃ (c : Int) (n : Nat), vs = [.int c, .int (n : Int)] ∧ n ≤ 500 ∧ ∀ row : List Int, row.length = n → RowOk row → RetL (row.map V.int) H Q
theorem scRow : FnScope ["_law_cell", "_law_many", "_law_row_here", "_law_rest", "_law_k"] ["_law_cell", "_law_many"] (defScope (topS 34)) := ⟨rfl, rfl, rfl, by decide +kernel, rfl, by decide +kernel, by decide +kernel⟩
theorem rowOk_add {row : List Int} {v : Int} (h : RowOk row) (h0 : 0 ≤ v) (h1 : v < 1000) : RowOk (row ++ [v]) := fun x hx => by
  rcases List.mem_append.mp hx with hx | hx
  · exact h x hx
  · rw [List.mem_singleton.mp hx]
    exact ⟨h0, h1⟩
theorem ok_row {f : Addr} {fd : FuncData} (F : Fun K "_law_row" "_law_row" (topS 34) f fd) (T : LawT K mg) (GM : CalX P w K mg base CX0 1 "_law_mixed" spMixed) : FnOk P w K mg base CX0 2 f fd ["_law_cell", "_law_many"] spRow := by
  refine F.ok scRow (fun vs H Q E h => ?_) (fun cdv A outer s H vs Q E hr h => ?_)
  · obtain ⟨c, n, rfl, _⟩ := h
    rfl
  · obtain ⟨c, n, rfl, hn, q⟩ := h
    refine ⟨_, pss_cons (ps_set (i := 2) scRow.nd rfl (Or.inl rfl) (pe_lst pa_nil))
      (pss_cons (ps_set (i := 3) scRow.nd rfl (Or.inl rfl) pe_int)
      (pss_cut (ps_if (pt_cmpR op_ge (pe_callB call_abs (by rfl) T.abs (by decide +kernel) (pa_cons (pv 0) pa_nil)) (pe_op op_pow pe_int pe_int) (nomark _)) (pss_one (ps_set (i := 3) scRow.nd rfl (Or.inl rfl) (pe_callB call_abs (by rfl) T.abs (by decide +kernel) (pa_cons (pv 0) pa_nil)))) pss_nil)
      (pss_cons (ps_for PassesOwn.never rfl (pi_range1 rfl T.range (pa_cons (pv 1) pa_nil)) (pg_name (i := 4) scRow.nd rfl (Or.inl rfl))
        (pss_one (ps_if (pt_cmpR op_gt (pv 3) pe_int (nomark _))
          (pss_cons (ps_expr (pe_bm PySem.F.plainAttrs_list PySem.F.slot_list_append PySem.F.type_list_append mt_append (pv 2) (pa_cons (pe_op op_mod (pe_callTy call_int1 (by rfl) T.int (by decide +kernel) (pa_cons (pv 3) pa_nil)) pe_int) pa_nil)))
            (pss_one (ps_set (i := 3) scRow.nd rfl (Or.inl rfl) (pe_op op_fdiv (pv 3) pe_int))))
          (pss_one (ps_expr (pe_bm PySem.F.plainAttrs_list PySem.F.slot_list_append PySem.F.type_list_append mt_append (pv 2) (pa_cons (pe_op op_mod (pe_callTy call_int1 (by rfl) T.int (by decide +kernel) (pa_cons (pe_cx (E := fun _ => E0) GM hr (by decide) (by rfl) at0 (pa_cons (pv 0) (pa_cons (pv 4) pa_nil))) pa_nil)) pe_int) pa_nil)))))))
      (pss_one (ps_ret (pv 2)))))), ?_⟩
    refine q_asgL (xs := []) (el_lst ea_nil (by decide)) (fun l H1 hl e1 h1 => ?_)
    refine q_asg (v := .int 0) ev_c (fun H2 e2 => ?_)
    refine q_cut (M := fun σ' H' => ∃ r : Int, σ' = [some (.int c), some (.int (n : Int)), some (.ref l), some (.int r), none] ∧ Ex H H' ∧ H' l = some (.lst [])) ?_ (fun σ3 H3 ⟨r, hσ3, e3, h3⟩ => ?_)
    · refine s_when (b := decide ((10 : Int) ^ (18 : Int).toNat ≤ if c < 0 then -c else c)) (et_test (ev_op (ev_cb (ea_cons (ev_var rfl) ea_nil) (fun H4 _ Q' q' => ⟨c, rfl, q' H4 (Ex.refl H4)⟩)) (ev_op ev_c ev_c (rv_I ⟨by decide, by decide, by decide⟩)) rv_I0)) (fun hb H3 e3 => ?_) (fun hb H3 e3 => ?_)
      · exact s_asg (ev_cb (ea_cons (ev_var rfl) ea_nil) (fun H4 _ Q' q' => ⟨c, rfl, q' H4 (Ex.refl H4)⟩)) (fun H4 e4 => ⟨_, rfl, ((e1.trans e2).trans e3).trans e4, (e2.trans (e3.trans e4)) _ _ h1⟩)
      · exact ⟨0, rfl, (e1.trans e2).trans e3, (e2.trans e3) _ _ h1⟩
    · subst hσ3
      refine q_forR1 (n := (n : Int)) (ea_cons (ev_var rfl) ea_nil) (by omega) (fun i σ' H' => ∃ (row : List Int) (rest : Int) (v4 : Option V), σ' = [some (.int c), some (.int (n : Int)), some (.ref l), some (.int rest), v4] ∧ H' l = some (.lst (row.map V.int)) ∧ row.length = i ∧ RowOk row ∧ Ex H H')
        (fun H4 e4 => ⟨[], r, none, rfl, e4 _ _ h3, rfl, (fun v hv => nomatch hv), e3.trans e4⟩) (fun i σ' H' hi ⟨row, rest, v4, hσ, hl', hlen, hrow, he⟩ => ?_) (fun σ' H' ⟨row, rest, v4, hσ, hl', hlen, hrow, he⟩ => ?_)
      · subst hσ
        have hsz : (row.map V.int).length < 100000 := by rw [List.length_map]; omega
        have app : ∀ v : Int, row.map V.int ++ [V.int v] = (row ++ [v]).map V.int := fun v => by rw [List.map_append]; rfl
        refine s_if (b := decide (0 < rest)) (et_test (ev_op (ev_var rfl) ev_c rv_I0)) (fun hb H4 e4 => ?_) (fun hb H4 e4 => ?_)
        · refine q_app (xs := row.map V.int) (v := .int (rest % 1000)) (e4 _ _ hl') (ev_var rfl) (ev_op (x := .int rest) (ev_cb (ea_cons (ev_var rfl) ea_nil) (rc_int (K := K))) ev_c (rv_I (by decide))) hsz (fun H5 e5 => ?_)
          refine s_asg (ev_op (x := .int rest) (ev_var rfl) ev_c (rv_I ⟨by decide, by decide⟩)) (fun H6 e6 => ?_)
          refine ⟨row ++ [rest % 1000], _, _, rfl, e6 _ _ (by rw [← app]; exact upd_same), (by rw [List.length_append, hlen]; rfl), rowOk_add hrow (Int.emod_nonneg _ (by decide)) (Int.emod_lt_of_pos _ (by decide)), (Ex.mut ((he.trans e4).trans e5) hl).trans e6⟩
        · refine ⟨_, rfl, .inl ⟨rfl, _, sq_of (e4 _ _ hl')⟩, _, rfl, _, rfl, c, i, rfl, by omega, fun m H5 e5 => .inl ⟨m, rfl, m, 1000, rfl, rfl, (by decide : (0 : Int) < 1000), l, row.map V.int, .int (m % 1000), rfl, rfl, (e4.trans e5) _ _ hl', sz_lt hsz, ?_⟩⟩
          refine ⟨row ++ [m % 1000], _, _, rfl, (by rw [← app]; exact upd_same), (by rw [List.length_append, hlen]; rfl), rowOk_add hrow (Int.emod_nonneg _ (by decide)) (Int.emod_lt_of_pos _ (by decide)), Ex.mut ((he.trans e4).trans e5) hl⟩
      · subst hσ
        have hn' : row.length = n := by simpa using hlen
        refine s_ret (ev_var rfl) (fun H4 e4 => q row hn' hrow l H4 hl (he.trans e4) (e4 _ _ hl'))
end
end Fs

set_option Elab.async false
set_option linter.all false
set_option maxRecDepth 100000
set_option maxHeartbeats 4000000
namespace Fs
open PySem L2 Evl FsE FsC FsR FsT
/-- the error's class, as the law asks it -/
structure ErrT (K : PySem.W.Frag) (mg : Str → Option Value) (CB : Addr) : Prop where
  gB : mg "BadTerm" = some (.ref CB)
  xf : XfC K CB
  no : PySem.W.findIn K (.ref CB) "field" = some none
  te : PySem.W.exmOne K (.ref CB) (.ref CB) = some true
/-- what each way makes, and what it is refused for -/
def mk4 (way : Int) (p r : Pr) : Pr := if way = 0 then .new "a" 3 p else if way = 1 then .cond (.nm "a") (.int 2) p r else if way = 2 then .choice (.cons "a" 0 1 (.int 5) [] p .nil) else if way = 3 then .choice (.cons "a" 1 2 (.nm "b") ["c"] p .nil) else .choice (p.ofs.app r.ofs)
def bad4 (way : Int) (p r : Pr) : Option Str := if way = 0 then badNew "a" 3 p else if way = 1 then badWhen (.nm "a") (.int 2) p r else if way = 2 then badOffer "a" 0 1 (.int 5) [] p else if way = 3 then badOffer "a" 1 2 (.nm "b") ["c"] p else badAdd p r
/-- _law_done: a pair -/
def spDone (C : Addr) : Sp := fun vs H Q _ => ∃ (way : Int) (a b : Addr) (p r : Pr), vs = [.int way, .ref a, .ref b] ∧ PrAt C H a p ∧ PrAt C H b r ∧ p.ofs.len ≤ 40 ∧ r.ofs.len ≤ 40 ∧
  (bad4 way p r = none → ∀ t c H', H t = none → Ex H H' → H' t = some (.tup [.ref c, .str ""]) → PrAt C H' c (mk4 way p r) → Q (.ref t) H') ∧
  (∀ f, bad4 way p r = some f → ∀ t H', H t = none → Ex H H' → H' t = some (.tup [.ref a, .str f]) → Q (.ref t) H')
section
variable {P : Program} {w : World} {K : PySem.W.Frag} {mg : Str → Option Value} {base : Heap} {C CB : Addr}
structure StaT (P : Program) (w : World) (K : PySem.W.Frag) (mg : Str → Option Value) (base : Heap) (C CB : Addr) (k : Nat) : Prop where
  mgC : mg "Process" = some (.ref C)
  stop : StaX P w K mg base (L2.CX P w) k C "stop" (spStop C CB)
  new : StaX P w K mg base (L2.CX P w) k C "new" (spNew C CB)
  when : StaX P w K mg base (L2.CX P w) k C "when" (spWhen C CB)
  call : StaX P w K mg base (L2.CX P w) k C "call" (spCall K C CB)
  offer : StaX P w K mg base (L2.CX P w) k C "offer" (spOffer C CB)
  add : ∃ (g : Addr) (fd : FuncData) (ps : List Str), OpM K C .Add g ∧ FnOk P w K mg base (L2.CX P w) k g fd ps (spAdd C CB) ∧ Binds K fd ps []
theorem scDone : FnScope ["_law_way", "_law_one", "_law_two", "e"] ["_law_way", "_law_one", "_law_two"] (defScope (topS 38)) := ⟨rfl, rfl, rfl, by decide +kernel, rfl, by decide +kernel, by decide +kernel⟩
theorem ok_done {f : Addr} {fd : FuncData} {k : Nat} (F : Fun K "_law_done" "_law_done" (topS 38) f fd) (T : TerT K mg C CB) (S : StaT P w K mg base C CB k) (R : ErrT K mg CB) : FnOk P w K mg base CX0 (k + 1) f fd ["_law_way", "_law_one", "_law_two"] (spDone C) := by
  refine F.ok scDone (fun vs H Q E h => ?_) (fun cdv A outer s H vs Q E hr h => ?_)
  · obtain ⟨way, a, b, p, r, rfl, _⟩ := h
    rfl
  · obtain ⟨way, a, b, p, r, rfl, ha, hb, lp, lr, q1, q2⟩ := h
    obtain ⟨g, fdg, psg, OM, FA, BA⟩ := S.add
    refine ⟨_, pss_one (ps_try_as (i := 3) (tb := _)
          (ts := fun a cls d => tRet (tTup (tCons (tVar 1) (tCons (tXf a cls d CB "field" (tVar 3)) tNil)))) (Wout := fun _ _ _ _ => False) rfl rfl scDone.nd rfl rfl ⟨rfl, by decide, Or.inl R.gB⟩ takes0
          (fun W pn xe tk _ => pss_cons (ps_if (pt_cmpR op_eq (pv 0) pe_int (nomark _)) (pss_one (ps_ret (by exact (pe_tup (pa_cons (pe_sx S.new hr (by omega) (pe_glob (v := .ref C) (by rfl) S.mgC rfl) (fun σ => passAt tk σ) (by exact (pa_cons pe_str (pa_cons pe_int (pa_cons (pv 1) pa_nil))))) (pa_cons pe_str pa_nil)))))) pss_nil)
            (pss_cons (ps_if (pt_cmpR op_eq (pv 0) pe_int (nomark _)) (pss_one (ps_ret (by exact (pe_tup (pa_cons (pe_sx S.when hr (by omega) (pe_glob (v := .ref C) (by rfl) S.mgC rfl) (fun σ => passAt tk σ) (by exact (pa_cons pe_str (pa_cons pe_int (pa_cons (pv 1) (pa_cons (pv 2) pa_nil)))))) (pa_cons pe_str pa_nil)))))) pss_nil)
            (pss_cons (ps_if (pt_cmpR op_eq (pv 0) pe_int (nomark _)) (pss_one (ps_ret (by exact (pe_tup (pa_cons (pe_sx S.offer hr (by omega) (pe_glob (v := .ref C) (by rfl) S.mgC rfl) (fun σ => passAt tk σ) (by exact (pa_cons pe_str (pa_cons pe_int (pa_cons pe_int (pa_cons pe_int (pa_cons (pe_lst pa_nil) (pa_cons (pv 1) pa_nil)))))))) (pa_cons pe_str pa_nil)))))) pss_nil)
            (pss_cons (ps_if (pt_cmpR op_eq (pv 0) pe_int (nomark _)) (pss_one (ps_ret (by exact (pe_tup (pa_cons (pe_sx S.offer hr (by omega) (pe_glob (v := .ref C) (by rfl) S.mgC rfl) (fun σ => passAt tk σ) (by exact (pa_cons pe_str (pa_cons pe_int (pa_cons pe_int (pa_cons pe_str (pa_cons (pe_lst (pa_cons pe_str pa_nil)) (pa_cons (pv 1) pa_nil)))))))) (pa_cons pe_str pa_nil)))))) pss_nil)
            (pss_one (ps_ret (by exact (pe_tup (pa_cons (pe_own (pv 1) (pv 2) OM FA (hr.mono (by omega)) BA (fun σ => passAt tk σ)) (pa_cons pe_str pa_nil))))))))))
          (fun a oe cls d pn hz hf => pss_one (ps_ret (by exact (pe_tup (pa_cons (pv 1) (pa_cons (pe_xf R.xf R.no hz hf (pv 3)) pa_nil))))))), ?_⟩
    have lb : ("b" : Str).length ≤ 40000 := by decide +kernel
    have lc : ("c" : Str).length ≤ 40000 := by decide +kernel
    have la : ("a" : Str).length ≤ 40000 := by decide +kernel
    refine q_when (b := decide (V.int way = V.int 0)) (et_test (ev_op (ev_var rfl) ev_c (rv_eq rfl))) (fun hb0 H1 e1 => ?_) (fun hb0 H1 e1 => ?_)
    · have h0 : way = 0 := V.int.inj (of_decide_eq_true hb0)
      have eb : bad4 way p r = badNew "a" 3 p := by unfold bad4; rw [if_pos h0]
      have em : mk4 way p r = .new "a" 3 p := by unfold mk4; rw [if_pos h0]
      rw [eb] at q1 q2
      rw [em] at q1
      refine ⟨rfl, _, rfl, "a", 3, a, p, rfl, la, ha.ex e1, fun hnone c H9 hc e9 h9 => ?_, fun f hf d H9 e9 hd h9 => ?_⟩
      · exact ⟨by show 2 ≤ sizeLine; decide, fun t ht => q1 hnone t c _ (fresh_back (e1.trans e9) ht) ((e1.trans e9).trans (Ex.new ht)) upd_same (h9.ex (Ex.new ht))⟩
      · refine ⟨true, R.te, fun _ a0 ha0 => ?_, fun hq => nomatch hq⟩
        exact ⟨_, rfl, _, rfl, rfl, rfl, d, _, .str f, rfl, h9, rfl, by show 2 ≤ sizeLine; decide, fun t ht => q2 f hf t _ (fresh_back (e1.trans e9) ht) ((e1.trans e9).trans (Ex.new ht)) upd_same⟩
    have n0 : ¬ way = 0 := fun z => by rw [z] at hb0; exact absurd hb0 (by decide)
    refine q_when (b := decide (V.int way = V.int 1)) (et_test (ev_op (ev_var rfl) ev_c (rv_eq rfl))) (fun hb1 H2 e2 => ?_) (fun hb1 H2 e2 => ?_)
    all_goals have x2 := e1.trans e2
    · have h1 : way = 1 := V.int.inj (of_decide_eq_true hb1)
      have eb : bad4 way p r = badWhen (.nm "a") (.int 2) p r := by unfold bad4; rw [if_neg n0, if_pos h1]
      have em : mk4 way p r = .cond (.nm "a") (.int 2) p r := by unfold mk4; rw [if_neg n0, if_pos h1]
      rw [eb] at q1 q2
      rw [em] at q1
      refine ⟨rfl, _, rfl, _, rfl, .nm "a", .int 2, a, b, p, r, rfl, la, True.intro, ha.ex x2, hb.ex x2, fun hnone c H9 hc e9 h9 => ?_, fun f hf d H9 e9 hd h9 => ?_⟩
      · exact ⟨by show 2 ≤ sizeLine; decide, fun t ht => q1 hnone t c _ (fresh_back (x2.trans e9) ht) ((x2.trans e9).trans (Ex.new ht)) upd_same (h9.ex (Ex.new ht))⟩
      · refine ⟨true, R.te, fun _ a0 ha0 => ?_, fun hq => nomatch hq⟩
        exact ⟨_, rfl, _, rfl, rfl, rfl, d, _, .str f, rfl, h9, rfl, by show 2 ≤ sizeLine; decide, fun t ht => q2 f hf t _ (fresh_back (x2.trans e9) ht) ((x2.trans e9).trans (Ex.new ht)) upd_same⟩
    have n1 : ¬ way = 1 := fun z => by rw [z] at hb1; exact absurd hb1 (by decide)
    refine q_when (b := decide (V.int way = V.int 2)) (et_test (ev_op (ev_var rfl) ev_c (rv_eq rfl))) (fun hb2 H3 e3 => ?_) (fun hb2 H3 e3 => ?_)
    all_goals have x3 := x2.trans e3
    · have h2 : way = 2 := V.int.inj (of_decide_eq_true hb2)
      have eb : bad4 way p r = badOffer "a" 0 1 (.int 5) [] p := by unfold bad4; rw [if_neg n0, if_neg n1, if_pos h2]
      have em : mk4 way p r = .choice (.cons "a" 0 1 (.int 5) [] p .nil) := by unfold mk4; rw [if_neg n0, if_neg n1, if_pos h2]
      rw [eb] at q1 q2
      rw [em] at q1
      refine ⟨rfl, by show 0 ≤ sizeLine; decide, fun u hu => ⟨_, rfl, "a", 0, 1, .int 5, u, [], a, p, rfl, la, True.intro, .inl upd_same, by decide, (fun y hy => nomatch hy), ha.ex (x3.trans (Ex.new hu)), fun hnone c H9 hc e9 h9 => ?_, fun f hf d H9 e9 hd h9 => ?_⟩⟩
      · exact ⟨by show 2 ≤ sizeLine; decide, fun t ht => q1 hnone t c _ (fresh_back ((x3.trans (Ex.new hu)).trans e9) ht) (((x3.trans (Ex.new hu)).trans e9).trans (Ex.new ht)) upd_same (h9.ex (Ex.new ht))⟩
      · refine ⟨true, R.te, fun _ a0 ha0 => ?_, fun hq => nomatch hq⟩
        exact ⟨_, rfl, _, rfl, rfl, rfl, d, _, .str f, rfl, h9, rfl, by show 2 ≤ sizeLine; decide, fun t ht => q2 f hf t _ (fresh_back ((x3.trans (Ex.new hu)).trans e9) ht) (((x3.trans (Ex.new hu)).trans e9).trans (Ex.new ht)) upd_same⟩
    have n2 : ¬ way = 2 := fun z => by rw [z] at hb2; exact absurd hb2 (by decide)
    refine q_when (b := decide (V.int way = V.int 3)) (et_test (ev_op (ev_var rfl) ev_c (rv_eq rfl))) (fun hb3 H4 e4 => ?_) (fun hb3 H4 e4 => ?_)
    all_goals have x4 := x3.trans e4
    · have h3 : way = 3 := V.int.inj (of_decide_eq_true hb3)
      have eb : bad4 way p r = badOffer "a" 1 2 (.nm "b") ["c"] p := by unfold bad4; rw [if_neg n0, if_neg n1, if_neg n2, if_pos h3]
      have em : mk4 way p r = .choice (.cons "a" 1 2 (.nm "b") ["c"] p .nil) := by unfold mk4; rw [if_neg n0, if_neg n1, if_neg n2, if_pos h3]
      rw [eb] at q1 q2
      rw [em] at q1
      refine ⟨rfl, by show 1 ≤ sizeLine; decide, fun u hu => ⟨_, rfl, "a", 1, 2, .nm "b", u, ["c"], a, p, rfl, la, lb, .inl upd_same, by decide, (fun y hy => by rw [List.mem_singleton.mp hy]; exact lc), ha.ex (x4.trans (Ex.new hu)), fun hnone c H9 hc e9 h9 => ?_, fun f hf d H9 e9 hd h9 => ?_⟩⟩
      · exact ⟨by show 2 ≤ sizeLine; decide, fun t ht => q1 hnone t c _ (fresh_back ((x4.trans (Ex.new hu)).trans e9) ht) (((x4.trans (Ex.new hu)).trans e9).trans (Ex.new ht)) upd_same (h9.ex (Ex.new ht))⟩
      · refine ⟨true, R.te, fun _ a0 ha0 => ?_, fun hq => nomatch hq⟩
        exact ⟨_, rfl, _, rfl, rfl, rfl, d, _, .str f, rfl, h9, rfl, by show 2 ≤ sizeLine; decide, fun t ht => q2 f hf t _ (fresh_back ((x4.trans (Ex.new hu)).trans e9) ht) (((x4.trans (Ex.new hu)).trans e9).trans (Ex.new ht)) upd_same⟩
    · have n3 : ¬ way = 3 := fun z => by rw [z] at hb3; exact absurd hb3 (by decide)
      have eb : bad4 way p r = badAdd p r := by unfold bad4; rw [if_neg n0, if_neg n1, if_neg n2, if_neg n3]
      have em : mk4 way p r = .choice (p.ofs.app r.ofs) := by unfold mk4; rw [if_neg n0, if_neg n1, if_neg n2, if_neg n3]
      rw [eb] at q1 q2
      rw [em] at q1
      obtain ⟨t1, xs1, ⟨dx, i1⟩, _⟩ := (ha.ex x4).out
      obtain ⟨t2, xs2, ⟨dy, i2⟩, _⟩ := (hb.ex x4).out
      refine ⟨_, rfl, _, rfl, a, b, dx, dy, _, _, rfl, rfl, i1, i2, a, b, p, r, rfl, ha.ex x4, hb.ex x4, lp, lr, fun hnone c H9 hc e9 h9 => ?_, fun f hf d H9 e9 hd h9 => ?_⟩
      · exact ⟨by show 2 ≤ sizeLine; decide, fun t ht => q1 hnone t c _ (fresh_back (x4.trans e9) ht) ((x4.trans e9).trans (Ex.new ht)) upd_same (h9.ex (Ex.new ht))⟩
      · refine ⟨true, R.te, fun _ a0 ha0 => ?_, fun hq => nomatch hq⟩
        exact ⟨_, rfl, _, rfl, rfl, rfl, d, _, .str f, rfl, h9, rfl, by show 2 ≤ sizeLine; decide, fun t ht => q2 f hf t _ (fresh_back (x4.trans e9) ht) ((x4.trans e9).trans (Ex.new ht)) upd_same⟩
end
end Fs

set_option Elab.async false
set_option linter.all false
set_option maxRecDepth 100000
set_option maxHeartbeats 4000000
namespace Fs
open PySem L2 Evl FsE FsC FsR FsT
theorem Ofs.d_nil : Ofs.depth .nil = 0 := by rw [Ofs.depth]
theorem Ofs.d_cons {c : Str} {s m : Int} {op : Opd} {ns : List Str} {r : Pr} {os : Ofs} : Ofs.depth (.cons c s m op ns r os) = max r.depth os.depth := by rw [Ofs.depth]
theorem Ofs.s_nil : Ofs.sum .nil = 0 := by rw [Ofs.sum]
theorem Ofs.s_cons {c : Str} {s m : Int} {op : Opd} {ns : List Str} {r : Pr} {os : Ofs} : Ofs.sum (.cons c s m op ns r os) = r.size + os.sum := by rw [Ofs.sum]
theorem Pr.d_ch {os : Ofs} : (Pr.choice os).depth = 1 + os.depth := by rw [Pr.depth]
theorem Pr.d_new {n : Str} {k : Int} {r : Pr} : (Pr.new n k r).depth = 1 + r.depth := by rw [Pr.depth]
theorem Pr.d_cond {l r : Opd} {y n : Pr} : (Pr.cond l r y n).depth = 1 + max y.depth n.depth := by rw [Pr.depth]
theorem Pr.s_ch {os : Ofs} : (Pr.choice os).size = max 1 (os.len : Int) + os.sum := by rw [Pr.size]
theorem Pr.s_new {n : Str} {k : Int} {r : Pr} : (Pr.new n k r).size = 1 + r.size := by rw [Pr.size]
theorem Pr.s_cond {l r : Opd} {y n : Pr} : (Pr.cond l r y n).size = 1 + (y.size + n.size) := by rw [Pr.size]
theorem Ofs.l_nil : Ofs.len .nil = 0 := rfl
theorem Ofs.l_cons {c : Str} {s m : Int} {op : Opd} {ns : List Str} {r : Pr} {os : Ofs} : Ofs.len (.cons c s m op ns r os) = os.len + 1 := rfl
theorem Ofs.app_depth : ∀ os qs : Ofs, (os.app qs).depth = max os.depth qs.depth
  | .nil, qs => by
    show qs.depth = max (Ofs.depth .nil) qs.depth
    have h := Ofs.depth_nn qs
    rw [Ofs.d_nil]
    omega
  | .cons c s m op ns r os, qs => by
    have ih := Ofs.app_depth os qs
    show Ofs.depth (.cons c s m op ns r (os.app qs)) = _
    rw [Ofs.d_cons, Ofs.d_cons, ih]
    omega
theorem Ofs.app_sum : ∀ os qs : Ofs, (os.app qs).sum = os.sum + qs.sum
  | .nil, qs => by
    show qs.sum = Ofs.sum .nil + qs.sum
    rw [Ofs.s_nil]
    omega
  | .cons c s m op ns r os, qs => by
    have ih := Ofs.app_sum os qs
    show Ofs.sum (.cons c s m op ns r (os.app qs)) = _
    rw [Ofs.s_cons, Ofs.s_cons, ih]
    omega
theorem Ofs.sum_nil {os : Ofs} (h : os.len = 0) : os.sum = 0 := by
  cases os with
  | nil => unfold Ofs.sum; rfl
  | cons c s m op ns r os =>
    unfold Ofs.len at h
    omega
def dep4 (way : Int) (p r : Pr) : Int := if way = 1 then max p.depth r.depth + 1 else if 3 < way then max p.depth r.depth else p.depth + 1
def siz4 (way : Int) (p r : Pr) : Int := if way = 1 then p.size + r.size + 1 else if 3 < way then (if p.ofs.len + r.ofs.len = 0 then 1 else p.size * (if 0 < p.ofs.len then 1 else 0) + r.size * (if 0 < r.ofs.len then 1 else 0)) else p.size + 1
def lim4 (d z : Int) : Option Str := if d ≤ 20 then (if z ≤ 400 then none else some "size") else some "depth"
def due4 (way : Int) (p r : Pr) : Option Str := if 3 < way then (if (p.isCh && r.isCh) = true then (if p.ofs.len + r.ofs.len ≤ 6 then lim4 (dep4 way p r) (siz4 way p r) else some "offers") else some "choice") else lim4 (dep4 way p r) (siz4 way p r)
theorem ch_size {p : Pr} (h : p.isCh = true) : p.size = max 1 (p.ofs.len : Int) + p.ofs.sum := by
  rw [Pr.ch_eq h]
  exact Pr.s_ch
theorem ch_depth {p : Pr} (h : p.isCh = true) : p.depth = 1 + p.ofs.depth := by
  rw [Pr.ch_eq h]
  exact Pr.d_ch
theorem mk_dep {way : Int} {p r : Pr} (h0 : 0 ≤ way) (h5 : way ≤ 5) (hc : 3 < way → (p.isCh && r.isCh) = true) : (mk4 way p r).depth = dep4 way p r ∧ (mk4 way p r).size = siz4 way p r ∧ (mk4 way p r).isCh = decide (1 < way) ∧ ((mk4 way p r).ofs.len : Int) = (if 3 < way then (p.ofs.len + r.ofs.len : Int) else if 1 < way then 1 else 0) := by
  have dp := Pr.depth_pos p
  have e : way = 0 ∨ way = 1 ∨ way = 2 ∨ way = 3 ∨ 3 < way := by omega
  have off : ∀ (s m : Int) (op : Opd) (ns : List Str), (Pr.choice (.cons "a" s m op ns p .nil)).depth = p.depth + 1 ∧ (Pr.choice (.cons "a" s m op ns p .nil)).size = p.size + 1 := fun s m op ns => by
    constructor
    · rw [Pr.d_ch, Ofs.d_cons, Ofs.d_nil]
      omega
    · rw [Pr.s_ch, Ofs.s_cons, Ofs.s_nil, Ofs.l_cons, Ofs.l_nil]
      omega
  rcases e with rfl | rfl | rfl | rfl | h
  · refine ⟨?_, ?_, rfl, rfl⟩
    · show (Pr.new "a" 3 p).depth = p.depth + 1
      rw [Pr.d_new]
      omega
    · show (Pr.new "a" 3 p).size = p.size + 1
      rw [Pr.s_new]
      omega
  · refine ⟨?_, ?_, rfl, rfl⟩
    · show (Pr.cond (.nm "a") (.int 2) p r).depth = max p.depth r.depth + 1
      rw [Pr.d_cond]
      omega
    · show (Pr.cond (.nm "a") (.int 2) p r).size = p.size + r.size + 1
      rw [Pr.s_cond]
      omega
  · exact ⟨(off _ _ _ _).1, (off _ _ _ _).2, rfl, rfl⟩
  · exact ⟨(off _ _ _ _).1, (off _ _ _ _).2, rfl, rfl⟩
  · have hb := hc h
    have hp : p.isCh = true := (Bool.and_eq_true_iff.mp hb).1
    have hr : r.isCh = true := (Bool.and_eq_true_iff.mp hb).2
    have em : mk4 way p r = .choice (p.ofs.app r.ofs) := by unfold mk4; rw [if_neg (by omega), if_neg (by omega), if_neg (by omega), if_neg (by omega)]
    have ed : dep4 way p r = max p.depth r.depth := by unfold dep4; rw [if_neg (by omega), if_pos h]
    have es : siz4 way p r = (if p.ofs.len + r.ofs.len = 0 then 1 else p.size * (if 0 < p.ofs.len then 1 else 0) + r.size * (if 0 < r.ofs.len then 1 else 0)) := by unfold siz4; rw [if_neg (by omega), if_pos h]
    rw [em, ed, es, if_pos h]
    refine ⟨?_, ?_, by rw [decide_eq_true (by omega)]; rfl, ?_⟩
    · rw [ch_depth hp, ch_depth hr, Pr.d_ch, Ofs.app_depth]
      omega
    · rw [ch_size hp, ch_size hr, Pr.s_ch, Ofs.app_sum, Ofs.app_len]
      by_cases z1 : p.ofs.len = 0
      · have s1 := Ofs.sum_nil z1
        by_cases z2 : r.ofs.len = 0
        · have s2 := Ofs.sum_nil z2
          rw [if_pos (by omega), s1, s2, z1, z2]
          rfl
        · rw [if_neg (by omega), if_neg (by omega), if_pos (by omega)]
          omega
      · by_cases z2 : r.ofs.len = 0
        · have s2 := Ofs.sum_nil z2
          rw [if_neg (by omega), if_pos (by omega), if_neg (by omega)]
          omega
        · rw [if_neg (by omega), if_pos (by omega), if_pos (by omega)]
          omega
    · show ((p.ofs.app r.ofs).len : Int) = _
      rw [Ofs.app_len]
      omega
theorem bad_due {way : Int} {p r : Pr} (h0 : 0 ≤ way) (h5 : way ≤ 5) : bad4 way p r = due4 way p r := by
  have key : ∀ q : Pr, badInit q = lim4 q.depth q.size := fun q => rfl
  have na : nameS "a" = true := by decide +kernel
  by_cases h : 3 < way
  · unfold bad4 due4
    rw [if_neg (by omega), if_neg (by omega), if_neg (by omega), if_neg (by omega), if_pos h]
    unfold badAdd
    by_cases hc : (p.isCh && r.isCh) = true
    · obtain ⟨m1, m2, _⟩ := mk_dep h0 h5 (fun _ => hc)
      have em : mk4 way p r = .choice (p.ofs.app r.ofs) := by unfold mk4; rw [if_neg (by omega), if_neg (by omega), if_neg (by omega), if_neg (by omega)]
      rw [if_pos hc, if_pos hc, key, ← em, m1, m2]
    · rw [if_neg hc, if_neg hc]
  · obtain ⟨m1, m2, _⟩ := mk_dep (p := p) (r := r) h0 h5 (fun q => absurd q h)
    unfold due4
    rw [if_neg h, ← m1, ← m2, ← key]
    have e : way = 0 ∨ way = 1 ∨ way = 2 ∨ way = 3 := by omega
    rcases e with rfl | rfl | rfl | rfl
    · show badNew "a" 3 p = badInit (.new "a" 3 p)
      unfold badNew
      rw [if_pos na, if_pos (by decide)]
    · show badWhen (.nm "a") (.int 2) p r = badInit (.cond (.nm "a") (.int 2) p r)
      unfold badWhen
      rw [if_pos (by decide +kernel), if_pos (by decide +kernel)]
    · show badOffer "a" 0 1 (.int 5) [] p = badInit (.choice (.cons "a" 0 1 (.int 5) [] p .nil))
      unfold badOffer
      rw [if_pos na, if_pos (by decide), if_pos (by decide), if_pos (by decide +kernel), if_pos (by decide +kernel)]
    · show badOffer "a" 1 2 (.nm "b") ["c"] p = badInit (.choice (.cons "a" 1 2 (.nm "b") ["c"] p .nil))
      unfold badOffer
      rw [if_pos na, if_pos (by decide), if_pos (by decide), if_pos (by decide +kernel), if_pos (by decide +kernel)]
end Fs

set_option Elab.async false
set_option linter.all false
set_option maxRecDepth 100000
set_option maxHeartbeats 8000000
namespace Fs
open PySem L2 Evl FsE FsC FsR FsT
/-- what the law keeps of a process -/
def row4 (a : Addr) (p : Pr) : List V := [.ref a, .bl p.isCh, .int (p.ofs.len : Int), .int p.depth, .int p.size]
def off4 (way : Int) (p r : Pr) : Int := if 3 < way then (p.ofs.len + r.ofs.len : Int) else if 1 < way then 1 else 0
def dueT (way : Int) (p r : Pr) : List V := match due4 way p r with
  | none => [.str "", .bl (decide (1 < way)), .int (off4 way p r), .int (dep4 way p r), .int (siz4 way p r)]
  | some f => [.str f, .bl false, .int 0, .int 0, .int 0]
def spDue : Sp := fun vs H Q _ => ∃ (way : Int) (t1 t2 a b : Addr) (p r : Pr), vs = [.int way, .ref t1, .ref t2] ∧ H t1 = some (.tup (row4 a p)) ∧ H t2 = some (.tup (row4 b r)) ∧ 0 ≤ way ∧ way ≤ 5 ∧ ∀ t H', H t = none → Ex H H' → H' t = some (.tup (dueT way p r)) → Q (.ref t) H'
section
variable {P : Program} {w : World} {K : PySem.W.Frag} {mg : Str → Option Value} {base : Heap} {C CB : Addr}
/-- max of a new list of two -/
theorem ev_maxL {σ : L2.St} {H : Hp} {te : TE} {i j : Int} (h : EvL te σ H [.int i, .int j]) : Ev (tCB (rMax K) (tCons te tNil)) σ H (.int (max i j)) := fun H1 e Q q =>
  h H1 e _ fun p H2 _ e2 hp => ⟨p, [i, j], rfl, sq_of hp, by show 0 < 2; decide, fun m hm hall => by
    have em : m = max i j := by
      have h1 := hall i (List.mem_cons_self ..)
      have h3 := hall j (List.mem_cons_of_mem _ (List.mem_cons_self ..))
      rcases List.mem_cons.mp hm with rfl | hm
      · omega
      · rw [List.mem_singleton.mp hm] at h1 ⊢
        omega
    rw [em]
    exact q H2 e2⟩
theorem ev_max2 {σ : L2.St} {H : Hp} {ta tb : TE} {i j : Int} (ha : Ev ta σ H (.int i)) (hb : Ev tb σ H (.int j)) : Ev (tCB (rMax K) (tCons (tLst (tCons ta (tCons tb tNil))) tNil)) σ H (.int (max i j)) := ev_maxL (el_lst (ea_cons ha (ea_cons hb ea_nil)) (by show 2 ≤ 100000; decide))
theorem s_retU {σ : L2.St} {H : Hp} {te : TE} {vs : List V} {D : Ends} (h : EvU te σ H vs) (k : ∀ t H', H t = none → Ex H H' → H' t = some (.tup vs) → D.rt (.ref t) H') : tRet te D σ H := h H (Ex.refl H) D.rt k
theorem rc_intB {b : Bool} {H : Hp} : RC (fun xs H Q => (∃ i, xs = [V.int i] ∧ Q (.int i) H) ∨ ∃ k, xs = [V.bl k] ∧ Q (.int (if k then 1 else 0)) H) [.bl b] H (.int (if b then 1 else 0)) := fun H1 _ Q q => .inr ⟨b, rfl, q H1 (Ex.refl H1)⟩
theorem c01 {i : Int} {b : Prop} [Decidable b] : CMul i (if b then 1 else 0) := by
  right
  by_cases h : b
  · rw [if_pos h]
    decide
  · rw [if_neg h]
    decide
theorem q_unp5 {σ : L2.St} {H : Hp} {ta : TE} {a : Addr} {x1 x2 x3 x4 x5 : V} {i1 i2 i3 i4 i5 : Nat} {tz : TS} {D : Ends} (h : Ev ta σ H (.ref a)) (hx : H a = some (.tup [x1, x2, x3, x4, x5])) (σ' : L2.St)
    (hσ : ((((σ.set i1 (some x1)).set i2 (some x2)).set i3 (some x3)).set i4 (some x4)).set i5 (some x5) = σ') (k : ∀ H1, Ex H H1 → tz D σ' H1) : tSeq (tAsg ta (gTup K 5 (gCons (gName i1) (gCons (gName i2) (gCons (gName i3) (gCons (gName i4) (gCons (gName i5) gNil))))))) tz D σ H := by
  subst hσ
  exact h H (Ex.refl H) _ fun H1 e1 => ⟨a, _, rfl, st_of (e1 _ _ hx), rfl, _, _, rfl, _, _, rfl, _, _, rfl, _, _, rfl, _, _, rfl, rfl, k H1 e1⟩
abbrev nsDue : List Str := ["_law_way", "_law_first", "_law_second", "_law_one", "_law_first_choice", "_law_first_offers", "_law_first_depth", "_law_first_size", "_law_two", "_law_second_choice", "_law_second_offers", "_law_second_depth", "_law_second_size", "_law_choice", "_law_offers", "_law_depth", "_law_size"]
theorem scDue : FnScope nsDue ["_law_way", "_law_first", "_law_second"] (defScope (topS 37)) := ⟨rfl, rfl, rfl, by decide +kernel, rfl, by decide +kernel, by decide +kernel⟩
theorem ok_due {f : Addr} {fd : FuncData} (F : Fun K "_law_due" "_law_due" (topS 37) f fd) (L : LawT K mg) (hmax : mg "max" = none) : FnOk P w K mg base CX0 1 f fd ["_law_way", "_law_first", "_law_second"] spDue := by
  refine F.ok scDue (fun vs H Q E h => ?_) (fun cdv A outer s H vs Q E hr h => ?_)
  · obtain ⟨way, t1, t2, a, b, p, r, rfl, _⟩ := h
    rfl
  · obtain ⟨way, t1, t2, a, b, p, r, rfl, h1, h2, w0, w5, q⟩ := h
    refine ⟨_, pss_cons (ps_asg (pv 1) (pg_tup rfl (pgs_cons (pg_name (i := 3) scDue.nd rfl (.inl rfl)) (pgs_cons (pg_name (i := 4) scDue.nd rfl (.inl rfl)) (pgs_cons (pg_name (i := 5) scDue.nd rfl (.inl rfl)) (pgs_cons (pg_name (i := 6) scDue.nd rfl (.inl rfl)) (pgs_cons (pg_name (i := 7) scDue.nd rfl (.inl rfl)) pgs_nil)))))))
      (pss_cons (ps_asg (pv 2) (pg_tup rfl (pgs_cons (pg_name (i := 8) scDue.nd rfl (.inl rfl)) (pgs_cons (pg_name (i := 9) scDue.nd rfl (.inl rfl)) (pgs_cons (pg_name (i := 10) scDue.nd rfl (.inl rfl)) (pgs_cons (pg_name (i := 11) scDue.nd rfl (.inl rfl)) (pgs_cons (pg_name (i := 12) scDue.nd rfl (.inl rfl)) pgs_nil)))))))
      (pss_cons (ps_set (i := 13) scDue.nd rfl (Or.inl rfl) (pe_cmpR op_gt (pv 0) pe_int (nomark _)))
      (pss_cons (ps_set (i := 14) scDue.nd rfl (Or.inl rfl) pe_int)
      (pss_cons (ps_set (i := 15) scDue.nd rfl (Or.inl rfl) (pe_op op_add (pv 6) pe_int))
      (pss_cons (ps_set (i := 16) scDue.nd rfl (Or.inl rfl) (pe_op op_add (pv 7) pe_int))
      (pss_cut (ps_if (pt_cmpR op_eq (pv 0) pe_int (nomark _)) (pss_cons (ps_set (i := 15) scDue.nd rfl (Or.inl rfl) (pe_op op_add (pe_callB (cr_max rfl) (by rfl) hmax (by decide +kernel) (pa_cons (pe_lst (pa_cons (pv 6) (pa_cons (pv 11) pa_nil))) pa_nil)) pe_int))
          (pss_one (ps_set (i := 16) scDue.nd rfl (Or.inl rfl) (pe_op op_add (pe_op op_add (pv 7) (pv 12)) pe_int)))) pss_nil)
      (pss_cut (ps_if (pt_cmpR op_gt (pv 0) pe_int (nomark _))
          (pss_cons (ps_if (PW.pt (pw_or (pt_not (pt_val (pv 4))) (pw_or1 (pt_not (pt_val (pv 9)))))) (pss_one (ps_ret (pe_tup (pa_cons pe_str (pa_cons pe_bl (pa_cons pe_int (pa_cons pe_int (pa_cons pe_int pa_nil)))))))) pss_nil)
          (pss_cons (ps_set (i := 14) scDue.nd rfl (Or.inl rfl) (pe_op op_add (pv 5) (pv 10)))
          (pss_cons (ps_if (pt_cmpR op_gt (pv 14) pe_int (nomark _)) (pss_one (ps_ret (pe_tup (pa_cons pe_str (pa_cons pe_bl (pa_cons pe_int (pa_cons pe_int (pa_cons pe_int pa_nil)))))))) pss_nil)
          (pss_cons (ps_set (i := 15) scDue.nd rfl (Or.inl rfl) (pe_callB (cr_max rfl) (by rfl) hmax (by decide +kernel) (pa_cons (pe_lst (pa_cons (pv 6) (pa_cons (pv 11) pa_nil))) pa_nil)))
          (pss_cons (ps_set (i := 16) scDue.nd rfl (Or.inl rfl) (pe_op op_add (pe_op op_mul (pv 7) (pe_callTy call_int1 (by rfl) L.int (by decide +kernel) (pa_cons (pe_cmpR op_gt (pv 5) pe_int (nomark _)) pa_nil))) (pe_op op_mul (pv 12) (pe_callTy call_int1 (by rfl) L.int (by decide +kernel) (pa_cons (pe_cmpR op_gt (pv 10) pe_int (nomark _)) pa_nil)))))
          (pss_one (ps_if (pt_cmpR op_eq (pv 14) pe_int (nomark _)) (pss_one (ps_set (i := 16) scDue.nd rfl (Or.inl rfl) pe_int)) pss_nil))))))) pss_nil)
      (pss_cons (ps_if (pt_cmpR op_gt (pv 15) pe_int (nomark _)) (pss_one (ps_ret (pe_tup (pa_cons pe_str (pa_cons pe_bl (pa_cons pe_int (pa_cons pe_int (pa_cons pe_int pa_nil)))))))) pss_nil)
      (pss_cons (ps_if (pt_cmpR op_gt (pv 16) pe_int (nomark _)) (pss_one (ps_ret (pe_tup (pa_cons pe_str (pa_cons pe_bl (pa_cons pe_int (pa_cons pe_int (pa_cons pe_int pa_nil)))))))) pss_nil)
      (pss_one (ps_ret (pe_tup (pa_cons pe_str (pa_cons (pv 13) (pa_cons (pe_op op_mul (pv 14) (pe_callTy call_int1 (by rfl) L.int (by decide +kernel) (pa_cons (pv 13) pa_nil))) (pa_cons (pv 15) (pa_cons (pv 16) pa_nil))))))))))))))))), ?_⟩
    have fin : ∀ {σ : L2.St} {H2 : Hp} {te : TE} {vs : List V} {nx : L2.St → Hp → Prop}, Ex H H2 → dueT way p r = vs → EvU te σ H2 vs → tRet te { nx := nx, rt := Q } σ H2 := fun e d h => s_retU h (fun t H' ht e' h' => q t H' (fresh_back e ht) (e.trans e') (by rw [d]; exact h'))
    refine q_unp5 (ev_var rfl) (show H t1 = some (.tup [.ref a, .bl p.isCh, .int (p.ofs.len : Int), .int p.depth, .int p.size]) from h1) [some (.int way), some (.ref t1), some (.ref t2), some (.ref a), some (.bl p.isCh), some (.int (p.ofs.len : Int)), some (.int p.depth), some (.int p.size), none, none, none, none, none, none, none, none, none] rfl (fun H0 e0 => ?_)
    refine q_unp5 (ev_var rfl) (show H0 t2 = some (.tup [.ref b, .bl r.isCh, .int (r.ofs.len : Int), .int r.depth, .int r.size]) from e0 _ _ h2) [some (.int way), some (.ref t1), some (.ref t2), some (.ref a), some (.bl p.isCh), some (.int (p.ofs.len : Int)), some (.int p.depth), some (.int p.size), some (.ref b), some (.bl r.isCh), some (.int (r.ofs.len : Int)), some (.int r.depth), some (.int r.size), none, none, none, none] rfl (fun H00 e00 => ?_)
    refine q_asg (v := .bl (decide (1 < way))) (ev_op (ev_var rfl) ev_c rv_I0) (fun H1 e1 => ?_)
    refine q_asg (v := .int 1) ev_c (fun H2 e2 => ?_)
    refine q_asg (v := .int (p.depth + 1)) (ev_op (ev_var rfl) ev_c rv_I0) (fun H3 e3 => ?_)
    refine q_asg (v := .int (p.size + 1)) (ev_op (ev_var rfl) ev_c rv_I0) (fun H4 e4 => ?_)
    have x4 := ((((e0.trans e00).trans e1).trans e2).trans e3).trans e4
    refine q_cut (M := fun σ' H' => ∃ D Z : Int, σ' = [some (.int way), some (.ref t1), some (.ref t2), some (.ref a), some (.bl p.isCh), some (.int (p.ofs.len : Int)), some (.int p.depth), some (.int p.size), some (.ref b), some (.bl r.isCh), some (.int (r.ofs.len : Int)), some (.int r.depth), some (.int r.size), some (.bl (decide (1 < way))), some (.int 1), some (.int D), some (.int Z)] ∧ Ex H H' ∧
      (way = 1 → D = max p.depth r.depth + 1 ∧ Z = p.size + r.size + 1) ∧ (¬ way = 1 → D = p.depth + 1 ∧ Z = p.size + 1)) ?_ (fun σ5 H5 ⟨D, Z, hσ5, x5, m1, m2⟩ => ?_)
    · refine s_when (b := decide (V.int way = V.int 1)) (et_test (ev_op (ev_var rfl) ev_c (rv_eq rfl))) (fun hb H5 e5 => ?_) (fun hb H5 e5 => ⟨_, _, rfl, x4.trans e5, fun q => absurd (show decide (V.int way = V.int 1) = true by rw [q]; rfl) (by rw [hb]; decide), fun _ => ⟨rfl, rfl⟩⟩)
      have h1 : way = 1 := V.int.inj (of_decide_eq_true hb)
      refine q_asg (v := .int (max p.depth r.depth + 1)) (ev_op (ev_max2 (K := K) (ev_var rfl) (ev_var rfl)) ev_c rv_I0) (fun H6 e6 => ?_)
      exact s_asg (v := .int (p.size + r.size + 1)) (ev_op (ev_op (ev_var rfl) (ev_var rfl) rv_I0) ev_c rv_I0) (fun H7 e7 => ⟨_, _, rfl, ((x4.trans e5).trans e6).trans e7, fun _ => ⟨rfl, rfl⟩, fun q => absurd h1 q⟩)
    subst hσ5
    refine q_cut (M := fun σ' H' => ∃ o D Z : Int, σ' = [some (.int way), some (.ref t1), some (.ref t2), some (.ref a), some (.bl p.isCh), some (.int (p.ofs.len : Int)), some (.int p.depth), some (.int p.size), some (.ref b), some (.bl r.isCh), some (.int (r.ofs.len : Int)), some (.int r.depth), some (.int r.size), some (.bl (decide (1 < way))), some (.int o), some (.int D), some (.int Z)] ∧ Ex H H' ∧
      (3 < way → (p.isCh && r.isCh) = true ∧ p.ofs.len + r.ofs.len ≤ 6 ∧ o = (p.ofs.len + r.ofs.len : Int)) ∧ (¬ 3 < way → o = 1) ∧ D = dep4 way p r ∧ Z = siz4 way p r) ?_ (fun σ6 H6 ⟨o, D2, Z2, hσ6, x6, n1, n2, n3, n4⟩ => ?_)
    · refine s_when (b := decide ((3 : Int) < way)) (et_test (ev_op (ev_var rfl) ev_c rv_I0)) (fun hb H6 e6 => ?_) (fun hb H6 e6 => ?_)
      · have h3 : 3 < way := of_decide_eq_true hb
        have x6 := x5.trans e6
        refine q_when (b := !p.isCh || !r.isCh) (et_or (et_not (et_B (ev_var rfl))) (fun _ => et_not (et_B (ev_var rfl)))) (fun hc H7 e7 => ?_) (fun hc H7 e7 => ?_)
        · have hcc : (p.isCh && r.isCh) = false := by
            rw [← Bool.not_and] at hc
            exact Bool.not_eq_true' _ |>.mp hc
          refine fin (x6.trans e7) ?_ (eu_tup (ea_cons ev_c (ea_cons ev_c (ea_cons ev_c (ea_cons ev_c (ea_cons ev_c ea_nil))))) (by show 5 ≤ 100000; decide))
          have ed : due4 way p r = some ("choice" : Str) := by unfold due4; rw [if_pos h3, if_neg (by rw [hcc]; decide)]
          unfold dueT
          simp only [ed]
        have hcc : (p.isCh && r.isCh) = true := by
          cases hz : (p.isCh && r.isCh) with
          | true => rfl
          | false =>
            rw [← Bool.not_and, hz] at hc
            cases hc
        have x7 := x6.trans e7
        refine q_asg (v := .int ((p.ofs.len : Int) + (r.ofs.len : Int))) (ev_op (ev_var rfl) (ev_var rfl) rv_I0) (fun H8 e8 => ?_)
        have x8 := x7.trans e8
        refine q_when (b := decide ((6 : Int) < (p.ofs.len : Int) + (r.ofs.len : Int))) (et_test (ev_op (ev_var rfl) ev_c rv_I0)) (fun hd H9 e9 => ?_) (fun hd H9 e9 => ?_)
        · have : (6 : Int) < (p.ofs.len : Int) + (r.ofs.len : Int) := of_decide_eq_true hd
          refine fin (x8.trans e9) ?_ (eu_tup (ea_cons ev_c (ea_cons ev_c (ea_cons ev_c (ea_cons ev_c (ea_cons ev_c ea_nil))))) (by show 5 ≤ 100000; decide))
          have ed : due4 way p r = some ("offers" : Str) := by unfold due4; rw [if_pos h3, if_pos hcc, if_neg (by omega)]
          unfold dueT
          simp only [ed]
        have h6 : ¬ (6 : Int) < (p.ofs.len : Int) + (r.ofs.len : Int) := by simpa using hd
        have x9 := x8.trans e9
        refine q_asg (v := .int (max p.depth r.depth)) (ev_max2 (K := K) (ev_var rfl) (ev_var rfl)) (fun H10 e10 => ?_)
        refine q_asg (v := .int (p.size * (if decide ((0 : Int) < (p.ofs.len : Int)) = true then 1 else 0) + r.size * (if decide ((0 : Int) < (r.ofs.len : Int)) = true then 1 else 0))) ?_ (fun H11 e11 => ?_)
        · exact ev_op (ev_op (ev_var rfl) (ev_cb (ea_cons (ev_op (ev_var rfl) ev_c rv_I0) ea_nil) rc_intB) (rv_I c01)) (ev_op (ev_var rfl) (ev_cb (ea_cons (ev_op (ev_var rfl) ev_c rv_I0) ea_nil) rc_intB) (rv_I c01)) rv_I0
        have x11 := (x9.trans e10).trans e11
        have dd : dep4 way p r = max p.depth r.depth := by unfold dep4; rw [if_neg (by omega), if_pos h3]
        have sz : siz4 way p r = (if p.ofs.len + r.ofs.len = 0 then 1 else p.size * (if 0 < p.ofs.len then 1 else 0) + r.size * (if 0 < r.ofs.len then 1 else 0)) := by unfold siz4; rw [if_neg (by omega), if_pos h3]
        have ifn : ∀ n : Nat, (if decide ((0 : Int) < (n : Int)) = true then (1 : Int) else 0) = if 0 < n then 1 else 0 := fun n => by
          by_cases hn : 0 < n
          · rw [if_pos (by rw [decide_eq_true (by omega)]), if_pos hn]
          · rw [if_neg (by rw [decide_eq_false (by omega)]; decide), if_neg hn]
        refine s_when (b := decide (V.int ((p.ofs.len : Int) + (r.ofs.len : Int)) = V.int 0)) (et_test (ev_op (ev_var rfl) ev_c (rv_eq rfl))) (fun hz H12 e12 => ?_) (fun hz H12 e12 => ?_)
        · have z0 : (p.ofs.len : Int) + (r.ofs.len : Int) = 0 := V.int.inj (of_decide_eq_true hz)
          exact s_asg (v := .int 1) ev_c (fun H13 e13 => ⟨_, _, _, rfl, (x11.trans e12).trans e13, fun _ => ⟨hcc, by omega, rfl⟩, fun q => absurd h3 q, dd.symm, by rw [sz, if_pos (by omega)]⟩)
        · have z0 : ¬ (p.ofs.len : Int) + (r.ofs.len : Int) = 0 := fun z => by rw [z] at hz; exact absurd hz (by decide)
          exact ⟨_, _, _, rfl, x11.trans e12, fun _ => ⟨hcc, by omega, rfl⟩, fun q => absurd h3 q, dd.symm, by rw [ifn, ifn, sz, if_neg (by omega : ¬ (p.ofs.len + r.ofs.len = 0))]⟩
      · have n3 : ¬ 3 < way := of_decide_eq_false hb
        refine ⟨1, _, _, rfl, x5.trans e6, fun q => absurd q n3, fun _ => rfl, ?_, ?_⟩
        · by_cases h1 : way = 1
          · rw [(m1 h1).1]; unfold dep4; rw [if_pos h1]
          · rw [(m2 h1).1]; unfold dep4; rw [if_neg h1, if_neg n3]
        · by_cases h1 : way = 1
          · rw [(m1 h1).2]; unfold siz4; rw [if_pos h1]
          · rw [(m2 h1).2]; unfold siz4; rw [if_neg h1, if_neg n3]
    subst hσ6
    have edue : due4 way p r = lim4 (dep4 way p r) (siz4 way p r) := by
      unfold due4
      by_cases h3 : 3 < way
      · rw [if_pos h3, if_pos (n1 h3).1, if_pos (n1 h3).2.1]
      · rw [if_neg h3]
    refine q_when (b := decide ((20 : Int) < D2)) (et_test (ev_op (ev_var rfl) ev_c rv_I0)) (fun hb H7 e7 => ?_) (fun hb H7 e7 => ?_)
    · have : 20 < D2 := of_decide_eq_true hb
      refine fin (x6.trans e7) ?_ (eu_tup (ea_cons ev_c (ea_cons ev_c (ea_cons ev_c (ea_cons ev_c (ea_cons ev_c ea_nil))))) (by show 5 ≤ 100000; decide))
      have ed : due4 way p r = some ("depth" : Str) := by rw [edue, ← n3]; unfold lim4; rw [if_neg (by omega)]
      unfold dueT
      simp only [ed]
    have hD : ¬ 20 < D2 := of_decide_eq_false hb
    refine q_when (b := decide ((400 : Int) < Z2)) (et_test (ev_op (ev_var rfl) ev_c rv_I0)) (fun hb2 H8 e8 => ?_) (fun hb2 H8 e8 => ?_)
    · have : 400 < Z2 := of_decide_eq_true hb2
      refine fin ((x6.trans e7).trans e8) ?_ (eu_tup (ea_cons ev_c (ea_cons ev_c (ea_cons ev_c (ea_cons ev_c (ea_cons ev_c ea_nil))))) (by show 5 ≤ 100000; decide))
      have ed : due4 way p r = some ("size" : Str) := by rw [edue, ← n3, ← n4]; unfold lim4; rw [if_pos (by omega), if_neg (by omega)]
      unfold dueT
      simp only [ed]
    have hZ : ¬ 400 < Z2 := of_decide_eq_false hb2
    refine fin ((x6.trans e7).trans e8) (vs := [.str "", .bl (decide (1 < way)), .int (o * (if decide (1 < way) = true then 1 else 0)), .int D2, .int Z2]) ?_
      (eu_tup (ea_cons ev_c (ea_cons (ev_var rfl) (ea_cons (ev_op (ev_var rfl) (ev_cb (ea_cons (ev_var rfl) ea_nil) rc_intB) (rv_I c01)) (ea_cons (ev_var rfl) (ea_cons (ev_var rfl) ea_nil))))) (by show 5 ≤ 100000; decide))
    have ed : due4 way p r = none := by rw [edue, ← n3, ← n4]; unfold lim4; rw [if_pos (by omega), if_pos (by omega)]
    unfold dueT
    simp only [ed]
    have eo : off4 way p r = o * (if decide (1 < way) = true then 1 else 0) := by
      unfold off4
      by_cases h3 : 3 < way
      · rw [if_pos h3, (n1 h3).2.2, if_pos (by rw [decide_eq_true (by omega)])]
        omega
      · rw [if_neg h3, n2 h3]
        by_cases h1 : 1 < way
        · rw [if_pos h1, if_pos (by rw [decide_eq_true h1])]
          rfl
        · rw [if_neg h1, if_neg (by rw [decide_eq_false h1]; decide)]
          rfl
    rw [eo, n3, n4]
end
end Fs

set_option Elab.async false
set_option linter.all false
set_option maxRecDepth 100000
set_option maxHeartbeats 8000000
namespace Fs
open PySem L2 Evl FsE FsC FsR FsT
/-- x() -/
theorem pe_cx0 {X : Cx} {CX : CXT} {k j : Nat} {x : Str} {sp : Sp} {E : XK} {p pos : Pos} (c : CalX X.prog X.w X.K X.mg X.base CX k x sp) (hr : Room j X.A) (hk : k ≤ j) (hg : Gl X x) (hx : Passes CX X E)
    (hdb : (x == ("__debug__" : Str)) = false := by decide) : PE X (.Call (.Name x p) [] [] pos) (tCall sp [] E tNil) := by
  obtain ⟨f, fd, ps, F, hm, kp, b⟩ := c.ex
  exact pe_call0 F (hr.mono hk) hg hm kp b .nil hx hdb
/-! what the law knows: a list of entries -/
def KnE (C : Addr) (H : Hp) (v : V) (p : Pr) : Prop := ∃ t a, v = .ref t ∧ H t = some (.tup (row4 a p)) ∧ PrAt C H a p ∧ p.ofs.len ≤ 6
theorem KnE.ex {C : Addr} {H H' : Hp} {v : V} {p : Pr} (e : Ex H H') (h : KnE C H v p) : KnE C H' v p := by
  obtain ⟨t, a, hv, ht, ha, hl⟩ := h
  exact ⟨t, a, hv, e _ _ ht, ha.ex e, hl⟩
def KnL (C : Addr) (H : Hp) : List V → List Pr → Prop
  | [], [] => True
  | v :: vs, p :: ps => KnE C H v p ∧ KnL C H vs ps
  | _, _ => False
theorem KnL.ex {C : Addr} {H H' : Hp} (e : Ex H H') : ∀ {vs : List V} {ps : List Pr}, KnL C H vs ps → KnL C H' vs ps
  | [], [], _ => True.intro
  | _ :: _, _ :: _, h => ⟨h.1.ex e, KnL.ex e h.2⟩
  | [], _ :: _, h => h.elim
  | _ :: _, [], h => h.elim
theorem KnL.snoc {C : Addr} {H : Hp} {v : V} {p : Pr} (hv : KnE C H v p) : ∀ {vs : List V} {ps : List Pr}, KnL C H vs ps → KnL C H (vs ++ [v]) (ps ++ [p])
  | [], [], _ => ⟨hv, True.intro⟩
  | _ :: _, _ :: _, h => ⟨h.1, KnL.snoc hv h.2⟩
  | [], _ :: _, h => h.elim
  | _ :: _, [], h => h.elim
theorem KnL.length {C : Addr} {H : Hp} : ∀ {vs : List V} {ps : List Pr}, KnL C H vs ps → vs.length = ps.length
  | [], [], _ => rfl
  | _ :: _, _ :: _, h => congrArg (· + 1) (KnL.length h.2)
  | [], _ :: _, h => h.elim
  | _ :: _, [], h => h.elim
theorem KnL.get {C : Addr} {H : Hp} : ∀ {vs : List V} {ps : List Pr} {i : Nat}, KnL C H vs ps → i < vs.length → ∃ v p, vs[i]? = some v ∧ ps[i]? = some p ∧ KnE C H v p
  | v :: _, p :: _, 0, h, _ => ⟨v, p, rfl, rfl, h.1⟩
  | _ :: _, _ :: _, i + 1, h, hi => by
    obtain ⟨v, p, h1, h2, h3⟩ := KnL.get (i := i) h.2 (Nat.lt_of_succ_lt_succ hi)
    exact ⟨v, p, h1, h2, h3⟩
  | [], _, _, _, hi => absurd hi (Nat.not_lt_zero _)
  | _ :: _, [], _, h, _ => h.elim
/-- a list may change: what stands in objects and tuples stays -/
structure ExN (H H' : Hp) : Prop where
  ins : ∀ a C dx fs, H a = some (.ins C dx fs) → H' a = some (.ins C dx fs)
  tup : ∀ a xs, H a = some (.tup xs) → H' a = some (.tup xs)
theorem ExN.upd {H : Hp} {l : Addr} {xs ys : List V} (h : H l = some (.lst xs)) : ExN H (upd H l (.lst ys)) := ⟨fun a C dx fs ha => by
    rw [upd_ne (fun z => by rw [z, h] at ha; cases ha)]
    exact ha, fun a xs ha => by
    rw [upd_ne (fun z => by rw [z, h] at ha; cases ha)]
    exact ha⟩
mutual
theorem PrAt.keep {C : Addr} {H H' : Hp} (e : ExN H H') : ∀ {p : Pr} {a : Addr}, PrAt C H a p → PrAt C H' a p
  | .choice os, a, h => by
    unfold PrAt at h ⊢
    obtain ⟨t, ps, ⟨dx, h1⟩, h2, h3⟩ := h
    exact ⟨t, ps, ⟨dx, e.ins _ _ _ _ h1⟩, e.tup _ _ h2, OfsAt.keep e h3⟩
  | .new n k r, a, h => by
    unfold PrAt at h ⊢
    obtain ⟨t, b, ⟨dx, h1⟩, h2, h3⟩ := h
    exact ⟨t, b, ⟨dx, e.ins _ _ _ _ h1⟩, e.tup _ _ h2, PrAt.keep e h3⟩
  | .cond l r y n, a, h => by
    unfold PrAt at h ⊢
    obtain ⟨t, b, c, ⟨dx, h1⟩, h2, h3, h4⟩ := h
    exact ⟨t, b, c, ⟨dx, e.ins _ _ _ _ h1⟩, e.tup _ _ h2, PrAt.keep e h3, PrAt.keep e h4⟩
  | .call n ops, a, h => by
    unfold PrAt at h ⊢
    obtain ⟨t, u, ⟨dx, h1⟩, h2, h3⟩ := h
    exact ⟨t, u, ⟨dx, e.ins _ _ _ _ h1⟩, e.tup _ _ h2, e.tup _ _ h3⟩
theorem OfsAt.keep {C : Addr} {H H' : Hp} (e : ExN H H') : ∀ {os : Ofs} {ps : List V}, OfsAt C H ps os → OfsAt C H' ps os
  | .nil, ps, h => by
    unfold OfsAt at h ⊢
    exact h
  | .cons c s m op ns r os, ps, h => by
    unfold OfsAt at h ⊢
    obtain ⟨o, u, b, qs, h1, h2, h3, h4, h5⟩ := h
    exact ⟨o, u, b, qs, h1, e.tup _ _ h2, e.tup _ _ h3, PrAt.keep e h4, OfsAt.keep e h5⟩
end
theorem KnE.keep {C : Addr} {H H' : Hp} {v : V} {p : Pr} (e : ExN H H') (h : KnE C H v p) : KnE C H' v p := by
  obtain ⟨t, a, hv, ht, ha, hl⟩ := h
  exact ⟨t, a, hv, e.tup _ _ ht, ha.keep e, hl⟩
theorem KnL.keep {C : Addr} {H H' : Hp} (e : ExN H H') : ∀ {vs : List V} {ps : List Pr}, KnL C H vs ps → KnL C H' vs ps
  | [], [], _ => True.intro
  | _ :: _, _ :: _, h => ⟨h.1.keep e, KnL.keep e h.2⟩
  | [], _ :: _, h => h.elim
  | _ :: _, [], h => h.elim
theorem KnE.mk {C : Addr} {H : Hp} {t a : Addr} {p : Pr} {b : Bool} {n d z : Int} (ht : H t = some (.tup [.ref a, .bl b, .int n, .int d, .int z])) (ha : PrAt C H a p) (h1 : p.isCh = b) (h2 : (p.ofs.len : Int) = n) (h3 : p.depth = d) (h4 : p.size = z) (hl : p.ofs.len ≤ 6) : KnE C H (.ref t) p := by
  refine ⟨t, a, rfl, ?_, ha, hl⟩
  unfold row4
  rw [h1, h2, h3, h4]
  exact ht
def tr : Nat → Pr
  | 0 => .choice .nil
  | n + 1 => .cond (.int 1) (.nm "x") (tr n) (tr n)
def tn : Nat → Pr
  | 0 => .choice .nil
  | n + 1 => .new "t" 2 (tn n)
theorem tn_dep : ∀ n, (tn n).depth = (n : Int) + 1 ∧ (tn n).size = (n : Int) + 1
  | 0 => ⟨by unfold tn; rw [Pr.d_ch, Ofs.d_nil]; rfl, by unfold tn; rw [Pr.s_ch, Ofs.s_nil, Ofs.l_nil]; rfl⟩
  | n + 1 => by
    obtain ⟨h1, h2⟩ := tn_dep n
    exact ⟨by unfold tn; rw [Pr.d_new, h1]; omega, by unfold tn; rw [Pr.s_new, h2]; omega⟩
theorem tr_dep : ∀ n, (tr n).depth = (n : Int) + 1
  | 0 => by unfold tr; rw [Pr.d_ch, Ofs.d_nil]; rfl
  | n + 1 => by unfold tr; rw [Pr.d_cond, tr_dep n]; omega
def trS : Nat → Int
  | 0 => 1
  | n + 1 => 1 + (trS n + trS n)
theorem tr_siz : ∀ n, (tr n).size = trS n
  | 0 => by unfold tr; rw [Pr.s_ch, Ofs.s_nil, Ofs.l_nil]; rfl
  | n + 1 => by unfold tr trS; rw [Pr.s_cond, tr_siz n]
theorem bad_tn {n : Nat} (h : n < 17) : badNew "t" 2 (tn n) = none := by
  have e := tn_dep (n + 1)
  unfold badNew
  rw [if_pos (by decide +kernel), if_pos (by decide)]
  unfold badInit
  rw [show (Pr.new "t" 2 (tn n)) = tn (n + 1) from rfl, e.1, e.2, if_pos (by omega), if_pos (by omega)]
theorem trS_le {n : Nat} (h : n ≤ 7) : trS n ≤ 255 := by
  have : n = 0 ∨ n = 1 ∨ n = 2 ∨ n = 3 ∨ n = 4 ∨ n = 5 ∨ n = 6 ∨ n = 7 := by omega
  rcases this with rfl | rfl | rfl | rfl | rfl | rfl | rfl | rfl <;> decide
theorem bad_tr {n : Nat} (h : n < 7) : badWhen (.int 1) (.nm "x") (tr n) (tr n) = none := by
  unfold badWhen
  rw [if_pos (by decide +kernel), if_pos (by decide +kernel)]
  unfold badInit
  have := trS_le (n := n + 1) (by omega)
  rw [show (Pr.cond (.int 1) (.nm "x") (tr n) (tr n)) = tr (n + 1) from rfl, tr_dep, tr_siz, if_pos (by omega), if_pos (by omega)]
def kn0 : List Pr := [.choice .nil, .call "f" [.int 1]]
def knAt (i : Nat) : List Pr := kn0 ++ [tn 17] ++ (if i < 3 then [] else if i < 6 then [tr 3] else if i < 7 then [tr 3, tr 6] else [tr 3, tr 6, tr 7])
def spBases (C : Addr) : Sp := fun vs H Q _ => vs = [] ∧ ∀ l H' vs', H l = none → Ex H H' → H' l = some (.lst vs') → KnL C H' vs' (knAt 7) → Q (.ref l) H'
theorem kn_2 : knAt (2 + 1) = knAt 2 ++ [tr (2 + 1)] := rfl
theorem kn_5 : knAt (5 + 1) = knAt 5 ++ [tr (5 + 1)] := rfl
theorem kn_6 : knAt (6 + 1) = knAt 6 ++ [tr (6 + 1)] := rfl
theorem kn_x {i : Nat} (h : i < 7) (h2 : ¬ i = 2) (h5 : ¬ i = 5) (h6 : ¬ i = 6) : knAt (i + 1) = knAt i := by
  have : i = 0 ∨ i = 1 ∨ i = 3 ∨ i = 4 := by omega
  rcases this with rfl | rfl | rfl | rfl <;> rfl
theorem bad_f1 : badCall "f" [.int 1] = none := by
  unfold badCall
  rw [if_pos (by decide +kernel), if_pos (by decide +kernel)]
  unfold badInit Pr.depth Pr.size
  rfl
section
variable {P : Program} {w : World} {K : PySem.W.Frag} {mg : Str → Option Value} {base : Heap} {C CB : Addr}
theorem scBases : FnScope ["_law_stop", "_law_known", "_law_tower", "_law_k", "_law_tree"] [] (defScope (topS 35)) := ⟨rfl, rfl, rfl, by decide +kernel, rfl, by decide +kernel, by decide +kernel⟩
theorem ok_bases {f : Addr} {fd : FuncData} {k : Nat} (F : Fun K "_law_bases" "_law_bases" (topS 35) f fd) (L : LawT K mg) (S : StaT P w K mg base C CB k) : FnOk P w K mg base CX0 (k + 1) f fd [] (spBases C) := by
  refine F.ok scBases (fun vs H Q E h => ?_) (fun cdv A outer s H vs Q E hr h => ?_)
  · obtain ⟨rfl, _⟩ := h
    rfl
  · obtain ⟨rfl, q⟩ := h
    refine ⟨_, pss_cons (ps_set (i := 0) scBases.nd rfl (Or.inl rfl) (pe_sx0 (E := fun _ => E0) S.stop hr (Nat.le_refl _) (pe_glob (v := .ref C) (by rfl) S.mgC rfl) (fun σ => passesAt_of passL σ)))
      (pss_cons (ps_set (i := 1) scBases.nd rfl (Or.inl rfl) (pe_lst (pa_cons (pe_tup (pa_cons (pv 0) (pa_cons pe_bl (pa_cons pe_int (pa_cons pe_int (pa_cons pe_int pa_nil))))))
        (pa_cons (pe_tup (pa_cons (pe_sx (E := fun _ => E0) S.call hr (Nat.le_refl _) (pe_glob (v := .ref C) (by rfl) S.mgC rfl) (fun σ => passesAt_of passL σ) (pa_cons pe_str (pa_cons (pe_lst (pa_cons pe_int pa_nil)) pa_nil))) (pa_cons pe_bl (pa_cons pe_int (pa_cons pe_int (pa_cons pe_int pa_nil)))))) pa_nil))))
      (pss_cons (ps_set (i := 2) scBases.nd rfl (Or.inl rfl) (pv 0))
      (pss_cons (ps_for PassesOwn.never rfl (pi_range1 rfl L.range (pa_cons pe_int pa_nil)) (pg_name (i := 3) scBases.nd rfl (Or.inl rfl))
        (pss_one (ps_set (i := 2) scBases.nd rfl (Or.inl rfl) (pe_sx (E := fun _ => E0) S.new hr (Nat.le_refl _) (pe_glob (v := .ref C) (by rfl) S.mgC rfl) (fun σ => passesAt_of passL σ) (pa_cons pe_str (pa_cons pe_int (pa_cons (pv 2) pa_nil)))))))
      (pss_cons (ps_expr (pe_bm PySem.F.plainAttrs_list PySem.F.slot_list_append PySem.F.type_list_append mt_append (pv 1) (pa_cons (pe_tup (pa_cons (pv 2) (pa_cons pe_bl (pa_cons pe_int (pa_cons pe_int (pa_cons pe_int pa_nil)))))) pa_nil)))
      (pss_cons (ps_set (i := 4) scBases.nd rfl (Or.inl rfl) (pv 0))
      (pss_cons (ps_for PassesOwn.never rfl (pi_range1 rfl L.range (pa_cons pe_int pa_nil)) (pg_name (i := 3) scBases.nd rfl (Or.inl rfl))
        (pss_cons (ps_set (i := 4) scBases.nd rfl (Or.inl rfl) (pe_sx (E := fun _ => E0) S.when hr (Nat.le_refl _) (pe_glob (v := .ref C) (by rfl) S.mgC rfl) (fun σ => passesAt_of passL σ) (pa_cons pe_int (pa_cons pe_str (pa_cons (pv 4) (pa_cons (pv 4) pa_nil))))))
          (pss_one (ps_if (pt_cmpR op_eq (pv 3) pe_int (nomark _)) (pss_one (ps_expr (pe_bm PySem.F.plainAttrs_list PySem.F.slot_list_append PySem.F.type_list_append mt_append (pv 1) (pa_cons (pe_tup (pa_cons (pv 4) (pa_cons pe_bl (pa_cons pe_int (pa_cons pe_int (pa_cons pe_int pa_nil)))))) pa_nil))))
            (pss_one (ps_if (pt_cmpR op_eq (pv 3) pe_int (nomark _)) (pss_one (ps_expr (pe_bm PySem.F.plainAttrs_list PySem.F.slot_list_append PySem.F.type_list_append mt_append (pv 1) (pa_cons (pe_tup (pa_cons (pv 4) (pa_cons pe_bl (pa_cons pe_int (pa_cons pe_int (pa_cons pe_int pa_nil)))))) pa_nil))))
              (pss_one (ps_if (pt_cmpR op_eq (pv 3) pe_int (nomark _)) (pss_one (ps_expr (pe_bm PySem.F.plainAttrs_list PySem.F.slot_list_append PySem.F.type_list_append mt_append (pv 1) (pa_cons (pe_tup (pa_cons (pv 4) (pa_cons pe_bl (pa_cons pe_int (pa_cons pe_int (pa_cons pe_int pa_nil)))))) pa_nil)))) pss_nil))))))))
      (pss_one (ps_ret (pv 1))))))))), ?_⟩
    refine ⟨rfl, rfl, fun _ a H1 ha e1 h1 => ?_, fun f hf => nomatch hf⟩
    refine ⟨_, rfl, by show 5 ≤ sizeLine; decide, fun t1 ht1 => ⟨rfl, by show 1 ≤ sizeLine; decide, fun u hu => ⟨"f", u, [.int 1], rfl, by decide +kernel, .inl upd_same, by decide, (fun o ho => by rw [List.mem_singleton.mp ho]; exact True.intro), fun _ c H3 hc e3 h3 => ⟨by show 5 ≤ sizeLine; decide, fun t2 ht2 => ⟨by show 2 ≤ sizeLine; decide, fun l hl => ?_⟩⟩, fun f hf => by rw [bad_f1] at hf; cases hf⟩⟩⟩
    have x1 := e1.trans (Ex.new (o := .tup [.ref a, .bl true, .int 0, .int 1, .int 1]) ht1)
    have x2 := x1.trans (Ex.new (o := .lst [.int 1]) hu)
    have x3 := x2.trans e3
    have x4 := x3.trans (Ex.new (o := .tup [.ref c, .bl false, .int 0, .int 1, .int 1]) ht2)
    have x5 := x4.trans (Ex.new (o := .lst [.ref t1, .ref t2]) hl)
    have hln : H l = none := fresh_back x4 hl
    have kn : KnL C (upd (upd H3 t2 (.tup [.ref c, .bl false, .int 0, .int 1, .int 1])) l (.lst [.ref t1, .ref t2])) [.ref t1, .ref t2] kn0 := by
      have y1 : Ex (upd H1 t1 (.tup [.ref a, .bl true, .int 0, .int 1, .int 1])) (upd (upd H3 t2 (.tup [.ref c, .bl false, .int 0, .int 1, .int 1])) l (.lst [.ref t1, .ref t2])) := (((Ex.new hu).trans e3).trans (Ex.new ht2)).trans (Ex.new hl)
      have y2 : Ex (upd H3 t2 (.tup [.ref c, .bl false, .int 0, .int 1, .int 1])) (upd (upd H3 t2 (.tup [.ref c, .bl false, .int 0, .int 1, .int 1])) l (.lst [.ref t1, .ref t2])) := Ex.new hl
      refine ⟨KnE.mk (b := true) (n := 0) (d := 1) (z := 1) (y1 _ _ upd_same) (h1.ex ((Ex.new ht1).trans y1)) rfl rfl (by rw [Pr.d_ch, Ofs.d_nil]; rfl) (by rw [Pr.s_ch, Ofs.s_nil, Ofs.l_nil]; rfl) (by decide), KnE.mk (b := false) (n := 0) (d := 1) (z := 1) (y2 _ _ upd_same) (h3.ex ((Ex.new ht2).trans y2)) rfl rfl ?_ ?_ (by decide), True.intro⟩
      · unfold Pr.depth; rfl
      · unfold Pr.size; rfl
    have ha4 : PrAt C (upd (upd H3 t2 (.tup [.ref c, .bl false, .int 0, .int 1, .int 1])) l (.lst [.ref t1, .ref t2])) a (.choice .nil) := h1.ex (((((Ex.new ht1).trans (Ex.new hu)).trans e3).trans (Ex.new ht2)).trans (Ex.new hl))
    have hl4 : (upd (upd H3 t2 (.tup [.ref c, .bl false, .int 0, .int 1, .int 1])) l (.lst [.ref t1, .ref t2])) l = some (.lst [.ref t1, .ref t2]) := upd_same
    show _
    refine q_asg (v := .ref a) (ev_var rfl) (fun H5 e5 => ?_)
    have kn5 := kn.ex e5
    have hl5 := e5 _ _ hl4
    have ha5 := ha4.ex e5
    have y5 := x5.trans e5
    clear kn hl4 ha4 e5 x5 x4 x3 x2 x1
    refine q_forR1 (n := 17) (ea_cons ev_c ea_nil) (by decide) (fun i σ' H' => ∃ (b : Addr) (v3 : Option V), σ' = [some (.ref a), some (.ref l), some (.ref b), v3, none] ∧ PrAt C H' b (tn i) ∧ Ex H5 H')
      (fun H6 e6 => ⟨a, none, rfl, ha5.ex e6, e6⟩) (fun i σ' H' hi ⟨b, v3, hσ, hb, he⟩ => ?_) (fun σ' H6 ⟨b, v3, hσ, hb, e6⟩ => ?_)
    · subst hσ
      refine ⟨rfl, _, rfl, "t", 2, b, tn i, rfl, by decide +kernel, hb, fun _ c2 H7 hc2 e7 h7 => ?_, fun f hf => ?_⟩
      · exact ⟨c2, _, rfl, h7, he.trans e7⟩
      · rw [bad_tn (by omega)] at hf
        cases hf
    subst hσ
    have z17 := tn_dep 17
    refine q_appU (e6 _ _ hl5) (ev_var rfl) (eu_tup (vs := [.ref b, .bl false, .int 0, .int 18, .int 18]) (ea_cons (ev_var rfl) (ea_cons ev_c (ea_cons ev_c (ea_cons ev_c (ea_cons ev_c ea_nil))))) (by show 5 ≤ 100000; decide)) (by show 2 < 100000; decide) (fun t3 H7 ht3 e7 h7 => ?_)
    have hl7 : H7 l = some (.lst [.ref t1, .ref t2]) := e7 _ _ (e6 _ _ hl5)
    have k7 : KnL C (upd H7 l (.lst ([.ref t1, .ref t2] ++ [.ref t3]))) ([.ref t1, .ref t2] ++ [.ref t3]) (knAt 0) :=
      KnL.snoc (KnE.keep (ExN.upd hl7) (KnE.mk h7 (hb.ex e7) rfl rfl z17.1 z17.2 (by decide))) (KnL.keep (ExN.upd hl7) (kn5.ex (e6.trans e7)))
    have y7 : Ex H (upd H7 l (.lst ([.ref t1, .ref t2] ++ [.ref t3]))) := Ex.mut ((y5.trans e6).trans e7) hln
    have a7 : PrAt C (upd H7 l (.lst ([.ref t1, .ref t2] ++ [.ref t3]))) a (.choice .nil) := PrAt.keep (ExN.upd hl7) (ha5.ex (e6.trans e7))
    refine q_asg (v := .ref a) (ev_var rfl) (fun H8 e8 => ?_)
    refine q_forR1 (n := 7) (ea_cons ev_c ea_nil) (by decide) (fun i σ' H' => ∃ (d : Addr) (vs : List V) (v3 : Option V), σ' = [some (.ref a), some (.ref l), some (.ref b), v3, some (.ref d)] ∧ PrAt C H' d (tr i) ∧ H' l = some (.lst vs) ∧ vs.length ≤ 3 + i ∧ KnL C H' vs (knAt i) ∧ Ex H H')
      (fun H9 e9 => ⟨a, _, _, rfl, a7.ex (e8.trans e9), (e8.trans e9) _ _ upd_same, Nat.le_refl 3, k7.ex (e8.trans e9), y7.trans (e8.trans e9)⟩) (fun i σ' H' hi ⟨d, vs, v3, hσ, hd, hl', hz, hk, he⟩ => ?_) (fun σ' H9 ⟨d, vs, v3, hσ, hd, hl', hz, hk, he⟩ => ?_)
    · subst hσ
      refine ⟨rfl, _, rfl, _, rfl, .int 1, .nm "x", d, d, tr i, tr i, rfl, True.intro, (by decide +kernel : ("x" : Str).length ≤ 40000), hd, hd, fun _ c2 H9 hc2 e9 h9 => ?_, fun f hf => ?_⟩
      · have hd9 : PrAt C H9 c2 (tr (i + 1)) := h9
        have hi7 : i < 7 := by omega
        have app : ∀ (H10 : Hp) (te : TE) (dd zz : Int) (j : Nat) (D : Ends), i = j → knAt (j + 1) = knAt j ++ [tr (j + 1)] → ((j : Int) + 1 + 1 = dd) → trS (j + 1) = zz → Ex H9 H10 → EvU te [some (.ref a), some (.ref l), some (.ref b), some (.int (i : Int)), some (.ref c2)] H10 [.ref c2, .bl false, .int 0, .int dd, .int zz] →
            (∀ H11 vs', H11 l = some (.lst vs') → vs'.length ≤ 3 + (i + 1) → PrAt C H11 c2 (tr (i + 1)) → KnL C H11 vs' (knAt (i + 1)) → Ex H H11 → D.nx [some (.ref a), some (.ref l), some (.ref b), some (.int (i : Int)), some (.ref c2)] H11) →
            tDrop (tBM K "list" rAppend (tVar 1) (tCons te tNil)) D [some (.ref a), some (.ref l), some (.ref b), some (.int (i : Int)), some (.ref c2)] H10 := by
          intro H10 te dd zz j D hij hkn hdd hzz e10 hte hD
          subst hij
          refine s_appU ((e9.trans e10) _ _ hl') (ev_var rfl) hte (by omega) (fun t4 H11 ht4 e11 h11 => ?_)
          have hl11 := ((e9.trans e10).trans e11) _ _ hl'
          have dq := tr_dep (i + 1)
          refine hD _ _ upd_same ?_ (PrAt.keep (ExN.upd hl11) (hd9.ex (e10.trans e11))) ?_ (Ex.mut (((he.trans e9).trans e10).trans e11) hln)
          · rw [List.length_append]
            show vs.length + 1 ≤ _
            omega
          · rw [hkn]
            exact KnL.snoc (KnE.keep (ExN.upd hl11) (KnE.mk h11 (hd9.ex (e10.trans e11)) rfl rfl (by rw [dq, ← hdd]; omega) (by rw [tr_siz, hzz]) (by show 0 ≤ 6; decide))) (KnL.keep (ExN.upd hl11) (hk.ex ((e9.trans e10).trans e11)))
        have eu : ∀ (H10 : Hp) (dd zz : Int), EvU (tTup (tCons (tVar 4) (tCons (tC (.bl false)) (tCons (tC (.int 0)) (tCons (tC (.int dd)) (tCons (tC (.int zz)) tNil)))))) [some (.ref a), some (.ref l), some (.ref b), some (.int (i : Int)), some (.ref c2)] H10 [.ref c2, .bl false, .int 0, .int dd, .int zz] :=
          fun H10 dd zz => eu_tup (ea_cons (ev_var rfl) (ea_cons ev_c (ea_cons ev_c (ea_cons ev_c (ea_cons ev_c ea_nil))))) (by show 5 ≤ 100000; decide)
        have done : ∀ H11 vs', H11 l = some (.lst vs') → vs'.length ≤ 3 + (i + 1) → PrAt C H11 c2 (tr (i + 1)) → KnL C H11 vs' (knAt (i + 1)) → Ex H H11 → ∃ (d : Addr) (vs : List V) (v3 : Option V), ([some (.ref a), some (.ref l), some (.ref b), some (.int (i : Int)), some (.ref c2)] : L2.St) = [some (.ref a), some (.ref l), some (.ref b), v3, some (.ref d)] ∧ PrAt C H11 d (tr (i + 1)) ∧ H11 l = some (.lst vs) ∧ vs.length ≤ 3 + (i + 1) ∧ KnL C H11 vs (knAt (i + 1)) ∧ Ex H H11 :=
          fun H11 vs' g1 g2 g3 g4 g5 => ⟨c2, vs', _, rfl, g3, g1, g2, g4, g5⟩
        refine s_if (b := decide (V.int (i : Int) = V.int 2)) (et_test (ev_op (ev_var rfl) ev_c (rv_eq rfl))) (fun hb H10 e10 => ?_) (fun hb H10 e10 => ?_)
        · have h2 : i = 2 := by have := V.int.inj (of_decide_eq_true hb); omega
          exact app H10 _ 4 15 2 _ h2 kn_2 (by decide) (by decide) e10 (eu H10 4 15) done
        have n2 : ¬ i = 2 := fun z => by rw [z] at hb; exact absurd hb (by decide)
        refine s_if (b := decide (V.int (i : Int) = V.int 5)) (et_test (ev_op (ev_var rfl) ev_c (rv_eq rfl))) (fun hb H11 e11 => ?_) (fun hb H11 e11 => ?_)
        · have h2 : i = 5 := by have := V.int.inj (of_decide_eq_true hb); omega
          exact app H11 _ 7 127 5 _ h2 kn_5 (by decide) (by decide) (e10.trans e11) (eu H11 7 127) done
        have n5 : ¬ i = 5 := fun z => by rw [z] at hb; exact absurd hb (by decide)
        refine s_if (b := decide (V.int (i : Int) = V.int 6)) (et_test (ev_op (ev_var rfl) ev_c (rv_eq rfl))) (fun hb H12 e12 => ?_) (fun hb H12 e12 => ?_)
        · have h2 : i = 6 := by have := V.int.inj (of_decide_eq_true hb); omega
          exact app H12 _ 8 255 6 _ h2 kn_6 (by decide) (by decide) ((e10.trans e11).trans e12) (eu H12 8 255) done
        have n6 : ¬ i = 6 := fun z => by rw [z] at hb; exact absurd hb (by decide)
        have ee := (e9.trans e10).trans (e11.trans e12)
        exact done H12 vs (ee _ _ hl') (by omega) (hd9.ex ((e10.trans e11).trans e12)) (by rw [kn_x hi7 n2 n5 n6]; exact hk.ex ee) (he.trans ee)
      · rw [bad_tr (by omega)] at hf
        cases hf
    · subst hσ
      exact s_ret (ev_var rfl) (fun H10 e10 => q l H10 vs hln (he.trans e10) (e10 _ _ hl') (hk.ex e10))
end
end Fs

set_option Elab.async false
set_option linter.all false
set_option maxRecDepth 100000
set_option maxHeartbeats 8000000
namespace Fs
open PySem L2 Evl FsE FsC FsR FsT
/-! the reckoning by numbers alone -/
def Fa (p : Pr) (d z : Int) (c : Bool) (n : Nat) : Prop := p.depth = d ∧ p.size = z ∧ p.isCh = c ∧ p.ofs.len = n
def depN (way d e : Int) : Int := if way = 1 then max d e + 1 else if 3 < way then max d e else d + 1
def sizN (way z : Int) (n : Nat) (y : Int) (m : Nat) : Int := if way = 1 then z + y + 1 else if 3 < way then (if n + m = 0 then 1 else z * (if 0 < n then 1 else 0) + y * (if 0 < m then 1 else 0)) else z + 1
def lenN (way : Int) (n m : Nat) : Nat := if 3 < way then n + m else if 1 < way then 1 else 0
def dueW (way d z : Int) (c : Bool) (n : Nat) (e y : Int) (b : Bool) (m : Nat) : Option Str := if 3 < way then (if (c && b) = true then (if n + m ≤ 6 then lim4 (depN way d e) (sizN way z n y m) else some "offers") else some "choice") else lim4 (depN way d e) (sizN way z n y m)
theorem due_fa {way : Int} {p r : Pr} {d z e y : Int} {c b : Bool} {n m : Nat} (f : Fa p d z c n) (g : Fa r e y b m) : due4 way p r = dueW way d z c n e y b m := by
  obtain ⟨rfl, rfl, rfl, rfl⟩ := f
  obtain ⟨rfl, rfl, rfl, rfl⟩ := g
  rfl
theorem fa_mk {way : Int} {p r : Pr} {d z e y : Int} {c b : Bool} {n m : Nat} (h0 : 0 ≤ way) (h5 : way ≤ 5) (hc : 3 < way → (c && b) = true) (f : Fa p d z c n) (g : Fa r e y b m) : Fa (mk4 way p r) (depN way d e) (sizN way z n y m) (decide (1 < way)) (lenN way n m) := by
  obtain ⟨rfl, rfl, rfl, rfl⟩ := f
  obtain ⟨rfl, rfl, rfl, rfl⟩ := g
  obtain ⟨h1, h2, h3, h4⟩ := mk_dep (p := p) (r := r) h0 h5 hc
  refine ⟨h1, h2, h3, ?_⟩
  unfold lenN
  by_cases k : 3 < way
  · rw [if_pos k] at h4 ⊢
    omega
  · rw [if_neg k] at h4 ⊢
    by_cases j : 1 < way
    · rw [if_pos j] at h4 ⊢
      omega
    · rw [if_neg j] at h4 ⊢
      omega
/-- an expression that makes or tells some process with these numbers -/
def EvR (C : Addr) (te : TE) (σ : L2.St) (H : Hp) (d z : Int) (c : Bool) (n : Nat) : Prop := ∀ H1, Ex H H1 → ∀ Q : VK, (∀ a p H', Ex H1 H' → PrAt C H' a p → Fa p d z c n → Q (.ref a) H') → te σ H1 Q
section
variable {C : Addr} {σ : L2.St} {H : Hp} {te ta tb : TE} {d z e y : Int} {c b : Bool} {n m : Nat} {E : L2.St → XK}
theorem er_of {a : Addr} {p : Pr} (h : Ev te σ H (.ref a)) (hp : PrAt C H a p) (f : Fa p d z c n) : EvR C te σ H d z c n := fun H1 e1 Q q => h H1 e1 Q fun H2 e2 => q a p H2 e2 (hp.ex (e1.trans e2)) f
theorem EvR.ex {H' : Hp} (x : Ex H H') (h : EvR C te σ H d z c n) : EvR C te σ H' d z c n := fun H1 e1 Q q => h H1 (x.trans e1) Q q
/-- _law_done(way, a, b)[0], not refused -/
theorem er_done {K : PySem.W.Frag} {way d' z' : Int} {c' : Bool} {n' : Nat} (ha : EvR C ta σ H d z c n) (hb : EvR C tb σ H e y b m) (h0 : 0 ≤ way ∧ way ≤ 5) (hl : n ≤ 40 ∧ m ≤ 40) (hc : 3 < way → (c && b) = true) (hd : dueW way d z c n e y b m = none)
    (e1 : depN way d e = d') (e2 : sizN way z n y m = z') (e3 : decide (1 < way) = c') (e4 : lenN way n m = n') : EvR C (tOp (rIxT K) (tCallS (spDone C) E (tCons (tC (.int way)) (tCons ta (tCons tb tNil)))) (tC (.int 0))) σ H d' z' c' n' := fun H1 x1 Q q => by
  subst e1 e2 e3 e4
  refine ha H1 x1 _ fun a p H2 x2 hp fp => hb H2 (x1.trans x2) _ fun bb r H3 x3 hr fr => ⟨way, a, bb, p, r, rfl, hp.ex x3, hr, by rw [fp.2.2.2]; exact hl.1, by rw [fr.2.2.2]; exact hl.2, fun hn t cc H4 ht x4 h4 hcc => ?_, fun f hf => ?_⟩
  · exact rv_ixT (v := .ref cc) (st_of h4) rfl H4 (Ex.refl H4) Q fun H5 x5 => q cc _ H5 ((x2.trans x3).trans (x4.trans x5)) (hcc.ex x5) (fa_mk h0.1 h0.2 hc fp fr)
  · rw [bad_due h0.1 h0.2, due_fa fp fr, hd] at hf
    cases hf
/-- _law_done(way, a, b)[1] -/
theorem ev_done {K : PySem.W.Frag} {way : Int} {o : Option Str} {f : Str} (ha : EvR C ta σ H d z c n) (hb : EvR C tb σ H e y b m) (h0 : 0 ≤ way ∧ way ≤ 5) (hl : n ≤ 40 ∧ m ≤ 40) (hd : dueW way d z c n e y b m = o) (hf : o.getD "" = f) :
    Ev (tOp (rIxT K) (tCallS (spDone C) E (tCons (tC (.int way)) (tCons ta (tCons tb tNil)))) (tC (.int 1))) σ H (.str f) := fun H1 x1 Q q => by
  subst hf
  refine ha H1 x1 _ fun a p H2 x2 hp fp => hb H2 (x1.trans x2) _ fun bb r H3 x3 hr fr => ⟨way, a, bb, p, r, rfl, hp.ex x3, hr, by rw [fp.2.2.2]; exact hl.1, by rw [fr.2.2.2]; exact hl.2, fun hn t cc H4 ht x4 h4 hcc => ?_, fun f hf t H4 ht x4 h4 => ?_⟩
  · rw [bad_due h0.1 h0.2, due_fa fp fr, hd] at hn
    subst hn
    exact rv_ixT (v := .str "") (st_of h4) rfl H4 (Ex.refl H4) Q fun H5 x5 => q H5 ((x2.trans x3).trans (x4.trans x5))
  · rw [bad_due h0.1 h0.2, due_fa fp fr, hd] at hf
    subst hf
    exact rv_ixT (v := .str f) (st_of h4) rfl H4 (Ex.refl H4) Q fun H5 x5 => q H5 ((x2.trans x3).trans (x4.trans x5))
theorem q_asgR {i : Nat} {tz : TS} {D : Ends} (h : EvR C te σ H d z c n) (k : ∀ a p H1, Ex H H1 → PrAt C H1 a p → Fa p d z c n → tz D (σ.set i (some (.ref a))) H1) : tSeq (tAsg te (gName i)) tz D σ H := h H (Ex.refl H) _ fun a p H1 x1 hp fp => k a p H1 x1 hp fp
end
/-- _law_pick: some index -/
def spPick : Sp := fun vs H Q _ => ∃ (d : Int) (n : Nat), vs = [.int d, .int (n : Int)] ∧ 1 ≤ n ∧ ∀ i : Nat, i < n → RetV (.int (i : Int)) H Q
section
variable {P : Program} {w : World} {K : PySem.W.Frag} {mg : Str → Option Value} {base : Heap} {C CB : Addr}
theorem scPick : FnScope ["_law_draw", "_law_many"] ["_law_draw", "_law_many"] (defScope (topS 36)) := ⟨rfl, rfl, rfl, by decide +kernel, rfl, by decide +kernel, by decide +kernel⟩
theorem ev_minL {σ : L2.St} {H : Hp} {te : TE} {i j : Int} (h : EvL te σ H [.int i, .int j]) : Ev (tCB (rMin K) (tCons te tNil)) σ H (.int (min i j)) := fun H1 e Q q =>
  h H1 e _ fun p H2 _ e2 hp => ⟨p, [i, j], rfl, sq_of hp, by show 0 < 2; decide, fun m hm hall => by
    have em : m = min i j := by
      have h1 := hall i (List.mem_cons_self ..)
      have h3 := hall j (List.mem_cons_of_mem _ (List.mem_cons_self ..))
      rcases List.mem_cons.mp hm with rfl | hm
      · omega
      · rw [List.mem_singleton.mp hm] at h1 ⊢
        omega
    rw [em]
    exact q H2 e2⟩
theorem ok_pick {f : Addr} {fd : FuncData} (F : Fun K "_law_pick" "_law_pick" (topS 36) f fd) (L : LawT K mg) (hmin : mg "min" = none) : FnOk P w K mg base CX0 1 f fd ["_law_draw", "_law_many"] spPick := by
  refine F.ok scPick (fun vs H Q E h => ?_) (fun cdv A outer s H vs Q E hr h => ?_)
  · obtain ⟨d, n, rfl, _⟩ := h
    rfl
  · obtain ⟨d, n, rfl, hn, q⟩ := h
    refine ⟨_, pss_cons (ps_if (pt_cmpR op_eq (pe_op op_mod (pe_op op_fdiv (pv 0) pe_int) pe_int) pe_int (nomark _)) (pss_one (ps_ret (pe_op op_mod (pe_callTy call_int1 (by rfl) L.int (by decide +kernel) (pa_cons (pv 0) pa_nil)) (pv 1)))) pss_nil)
      (pss_one (ps_ret (pe_op op_sub (pe_op op_sub (pv 1) pe_int) (pe_op op_mod (pe_callTy call_int1 (by rfl) L.int (by decide +kernel) (pa_cons (pv 0) pa_nil)) (pe_callB (cr_min rfl) (by rfl) hmin (by decide +kernel) (pa_cons (pe_lst (pa_cons pe_int (pa_cons (pv 1) pa_nil))) pa_nil)))))), ?_⟩
    refine q_when (b := decide (V.int (d / 7 % 2) = V.int 0)) (et_test (ev_op (ev_op (x := .int (d / 7)) (ev_op (ev_var rfl) ev_c (rv_I ⟨by decide, by decide⟩)) ev_c (rv_I (by decide))) ev_c (rv_eq rfl))) (fun hb H1 e1 => ?_) (fun hb H1 e1 => ?_)
    · have h1 := Int.emod_nonneg d (b := (n : Int)) (by omega)
      have h2 := Int.emod_lt_of_pos d (b := (n : Int)) (by omega)
      refine s_ret (v := .int (d % (n : Int))) (ev_op (x := .int d) (ev_cb (ea_cons (ev_var rfl) ea_nil) (rc_int (K := K))) (ev_var rfl) (rv_I (show (0 : Int) < n by omega))) (fun H2 e2 => ?_)
      have hq := q (d % (n : Int)).toNat (by omega)
      rw [Int.toNat_of_nonneg h1] at hq
      exact hq H2 (e1.trans e2)
    · have h1 := Int.emod_nonneg d (b := min 3 (n : Int)) (by omega)
      have h2 := Int.emod_lt_of_pos d (b := min 3 (n : Int)) (by omega)
      refine s_ret (v := .int ((n : Int) - 1 - d % min 3 (n : Int))) (ev_op (x := .int ((n : Int) - 1)) (ev_op (ev_var rfl) ev_c rv_I0) (ev_op (x := .int d) (y := .int (min 3 (n : Int))) (ev_cb (ea_cons (ev_var rfl) ea_nil) (rc_int (K := K))) (ev_minL (el_lst (ea_cons ev_c (ea_cons (ev_var rfl) ea_nil)) (by show 2 ≤ 100000; decide))) (rv_I (show (0 : Int) < min 3 (n : Int) by omega))) rv_I0) (fun H2 e2 => ?_)
      have hq := q ((n : Int) - 1 - d % min 3 (n : Int)).toNat (by omega)
      rw [Int.toNat_of_nonneg (by omega)] at hq
      exact hq H2 (e1.trans e2)
end
end Fs

set_option Elab.async false
set_option linter.all false
set_option maxRecDepth 100000
set_option maxHeartbeats 8000000
namespace Fs
open PySem L2 Evl FsE FsC FsR FsT
def spTail (C : Addr) : Sp := fun vs H Q _ => ∃ (l : Addr) (xs : List V), vs = [.ref l] ∧ H l = some (.lst xs) ∧ KnL C H xs (knAt 7) ∧ RetV (.bl true) H Q
theorem rv_eqD4 {K : PySem.W.Frag} {H : Hp} {x y : V} {d : PyData} (hx : ∀ H1, Ex H H1 → Dp K H1 x d) (hy : ∀ H1, Ex H H1 → Dp K H1 y d) (hs : SeqAt.shaped d = true) : RV (rEqD K) x y H (.bl true) := fun H1 e Q q => ⟨d, d, hx H1 e, hy H1 e, hs, hs, by rw [SeqAt.eqv_refl d (SeqAt.canLay_of_shaped hs)]; exact q H1 (Ex.refl H1)⟩
theorem fa_tn17 : Fa (tn 17) 18 18 false 0 := ⟨(tn_dep 17).1, (tn_dep 17).2, rfl, rfl⟩
theorem fa_tr {n : Nat} {d z : Int} (hd : (n : Int) + 1 + 1 = d) (hz : trS (n + 1) = z) : Fa (tr (n + 1)) d z false 0 := ⟨by rw [tr_dep, ← hd]; omega, by rw [tr_siz, hz], rfl, rfl⟩
theorem fa_stop : Fa (.choice .nil) 1 1 true 0 := ⟨by rw [Pr.d_ch, Ofs.d_nil]; rfl, by rw [Pr.s_ch, Ofs.s_nil, Ofs.l_nil]; rfl, rfl, rfl⟩
theorem q_unpL4 {σ : L2.St} {H : Hp} {ta : TE} {x1 x2 x3 x4 : V} {i1 i2 i3 i4 : Nat} {tz : TS} {D : Ends} {K : PySem.W.Frag} (h : EvL ta σ H [x1, x2, x3, x4]) (σ' : L2.St)
    (hσ : (((σ.set i1 (some x1)).set i2 (some x2)).set i3 (some x3)).set i4 (some x4) = σ') (k : ∀ H1, Ex H H1 → tz D σ' H1) : tSeq (tAsg ta (gLst K 4 (gCons (gName i1) (gCons (gName i2) (gCons (gName i3) (gCons (gName i4) gNil)))))) tz D σ H := by
  subst hσ
  exact h H (Ex.refl H) _ fun p H1 _ e1 h1 => ⟨p, _, rfl, sq_of h1, rfl, _, _, rfl, _, _, rfl, _, _, rfl, _, _, rfl, rfl, k H1 e1⟩
theorem q_extL {σ : L2.St} {H : Hp} {ta te : TE} {l : Addr} {xs ys : List V} {tz : TS} {D : Ends} {K : PySem.W.Frag} (hl : H l = some (.lst xs)) (ha : Ev ta σ H (.ref l)) (h : EvL te σ H ys) (hz : xs.length + ys.length ≤ sizeLine) (k : ∀ H1, Ex H H1 → tz D σ (upd H1 l (.lst (xs ++ ys)))) :
    tSeq (tDrop (tBM K "list" rExtend ta (tCons te tNil))) tz D σ H := ha H (Ex.refl H) _ fun H1 e1 =>
  ⟨Or.inl ⟨rfl, xs, sq_of (e1 l _ hl)⟩, h H1 e1 _ fun p H2 hp e2 h2 => ⟨l, p, xs, ys, rfl, rfl, e2 l _ (e1 l _ hl), h2, hz, k H2 (e1.trans e2)⟩⟩
theorem el_catL {σ : L2.St} {H : Hp} {ta tb : TE} {l : Addr} {xs ys : List V} (ha : Ev ta σ H (.ref l)) (hl : H l = some (.lst xs)) (hb : EvL tb σ H ys) (hz : xs.length + ys.length ≤ sizeLine) : EvL (tOp rCat ta tb) σ H (xs ++ ys) := fun H1 e Q q =>
  ha H1 e _ fun H2 e2 => hb H2 (e.trans e2) _ fun p H3 hp e3 h3 => ⟨l, p, xs, ys, rfl, rfl, e3 _ _ (e2 _ _ (e _ _ hl)), h3, hz, fun r hr => q r _ (fresh_back (e2.trans e3) hr) ((e2.trans e3).trans (Ex.new hr)) upd_same⟩
theorem kn7 {C : Addr} {H : Hp} {xs : List V} (hk : KnL C H xs (knAt 7)) : ∃ v0 v1 v2 v3 v4 v5, xs = [v0, v1, v2, v3, v4, v5] ∧ KnE C H v0 (.choice .nil) ∧ KnE C H v2 (tn 17) ∧ KnE C H v3 (tr 3) ∧ KnE C H v4 (tr 6) ∧ KnE C H v5 (tr 7) := by
  have hlen : xs.length = 6 := hk.length
  match xs, hlen, hk with
  | [v0, v1, v2, v3, v4, v5], _, hk => exact ⟨v0, v1, v2, v3, v4, v5, rfl, hk.1, hk.2.2.1, hk.2.2.2.1, hk.2.2.2.2.1, hk.2.2.2.2.2.1⟩
section
variable {P : Program} {w : World} {K : PySem.W.Frag} {mg : Str → Option Value} {base : Heap} {C CB : Addr}
abbrev nsTail : List Str := ["_law_known", "_law_one", "_law_tower", "_law_small", "_law_middle", "_law_great", "_law_most", "_law_near", "_law_full", "_law_tall", "_law_two", "_law_both", "_law_fields"]
theorem scTail : FnScope nsTail ["_law_known"] (defScope (topS 39)) := ⟨rfl, rfl, rfl, by decide +kernel, rfl, by decide +kernel, by decide +kernel⟩
theorem ok_tail {f : Addr} {fd : FuncData} {k : Nat} (F : Fun K "_law_tail" "_law_tail" (topS 39) f fd) (G : CalX P w K mg base CX0 k "_law_done" (spDone C)) : FnOk P w K mg base CX0 (k + 1) f fd ["_law_known"] (spTail C) := by
  refine F.ok scTail (fun vs H Q E h => ?_) (fun cdv A outer s H vs Q E hr h => ?_)
  · obtain ⟨l, xs, rfl, _⟩ := h
    rfl
  · obtain ⟨l, xs, rfl, hl, hk, q⟩ := h
    refine ⟨_, pss_cons (ps_asg (pe_lc (own := [("_law_one", 1)]) (g := gName 1) (tt := tYes) (te := tOp (rIxT K) (tVar 1) (tC (.int 0))) rfl scTail.nd (pi_list (pe_slice sl_list (pv 0) (po_some pe_int) (po_some pe_int))) (blkOk_by (own := [("_law_one", 1)]) (N := nsTail) (sc := defScope (topS 39)) (by decide +kernel))
            (fun _ _ _ _ _ => pg_name (i := 1) scTail.nd rfl (Or.inl rfl)) (fun _ _ _ _ _ => pts_nil) (fun _ _ _ _ _ => pe_ix ix_tup (pv 1) pe_int (fun _ _ => rfl)))
          (pg_lst rfl (pgs_cons (pg_name (i := 2) scTail.nd rfl (.inl rfl)) (pgs_cons (pg_name (i := 3) scTail.nd rfl (.inl rfl)) (pgs_cons (pg_name (i := 4) scTail.nd rfl (.inl rfl)) (pgs_cons (pg_name (i := 5) scTail.nd rfl (.inl rfl)) pgs_nil))))))
      (pss_cons (ps_set (i := 6) scTail.nd rfl (Or.inl rfl) (pe_ix ix_tup (pe_cx (E := fun _ => E0) G hr (Nat.le_refl _) (by rfl) at0 (pa_cons pe_int (pa_cons (pv 5) (pa_cons (pv 4) pa_nil)))) pe_int (fun _ _ => rfl)))
      (pss_cons (ps_set (i := 7) scTail.nd rfl (Or.inl rfl) (pe_ix ix_tup (pe_cx (E := fun _ => E0) G hr (Nat.le_refl _) (by rfl) at0 (pa_cons pe_int (pa_cons (pv 6) (pa_cons (pv 3) pa_nil)))) pe_int (fun _ _ => rfl)))
      (pss_cons (ps_set (i := 8) scTail.nd rfl (Or.inl rfl) (pe_ix ix_tup (pe_cx (E := fun _ => E0) G hr (Nat.le_refl _) (by rfl) at0 (pa_cons pe_int (pa_cons (pv 7) (pa_cons (pv 7) pa_nil)))) pe_int (fun _ _ => rfl)))
      (pss_cons (ps_set (i := 9) scTail.nd rfl (Or.inl rfl) (pe_ix ix_tup (pe_cx (E := fun _ => E0) G hr (Nat.le_refl _) (by rfl) at0 (pa_cons pe_int (pa_cons (pe_ix ix_tup (pe_cx (E := fun _ => E0) G hr (Nat.le_refl _) (by rfl) at0 (pa_cons pe_int (pa_cons (pv 2) (pa_cons (pv 2) pa_nil)))) pe_int (fun _ _ => rfl)) (pa_cons (pv 2) pa_nil)))) pe_int (fun _ _ => rfl)))
      (pss_cons (ps_set (i := 1) scTail.nd rfl (Or.inl rfl) (pe_ix ix_tup (pe_cx (E := fun _ => E0) G hr (Nat.le_refl _) (by rfl) at0 (pa_cons pe_int (pa_cons (pv 5) (pa_cons (pv 5) pa_nil)))) pe_int (fun _ _ => rfl)))
      (pss_cons (ps_set (i := 10) scTail.nd rfl (Or.inl rfl) (pe_ix ix_tup (pe_cx (E := fun _ => E0) G hr (Nat.le_refl _) (by rfl) at0 (pa_cons pe_int (pa_cons (pe_ix ix_tup (pe_cx (E := fun _ => E0) G hr (Nat.le_refl _) (by rfl) at0 (pa_cons pe_int (pa_cons (pv 4) (pa_cons (pv 3) pa_nil)))) pe_int (fun _ _ => rfl)) (pa_cons (pv 3) pa_nil)))) pe_int (fun _ _ => rfl)))
      (pss_cons (ps_set (i := 11) scTail.nd rfl (Or.inl rfl) (pe_ix ix_tup (pe_cx (E := fun _ => E0) G hr (Nat.le_refl _) (by rfl) at0 (pa_cons pe_int (pa_cons (pv 1) (pa_cons (pv 10) pa_nil)))) pe_int (fun _ _ => rfl)))
      (pss_cons (ps_set (i := 12) scTail.nd rfl (Or.inl rfl) (pe_lst (pa_cons (pe_ix ix_tup (pe_cx (E := fun _ => E0) G hr (Nat.le_refl _) (by rfl) at0 (pa_cons pe_int (pa_cons (pv 7) (pa_cons (pv 7) pa_nil)))) pe_int (fun _ _ => rfl)) (pa_cons (pe_ix ix_tup (pe_cx (E := fun _ => E0) G hr (Nat.le_refl _) (by rfl) at0 (pa_cons pe_int (pa_cons (pv 8) (pa_cons (pv 8) pa_nil)))) pe_int (fun _ _ => rfl)) (pa_cons (pe_ix ix_tup (pe_cx (E := fun _ => E0) G hr (Nat.le_refl _) (by rfl) at0 (pa_cons pe_int (pa_cons (pv 7) (pa_cons (pe_ix ix_tup (pe_ix ix_list (pv 0) pe_int (fun _ _ => rfl)) pe_int (fun _ _ => rfl)) pa_nil)))) pe_int (fun _ _ => rfl)) pa_nil)))))
      (pss_cons (ps_expr (pe_bm PySem.F.plainAttrs_list PySem.F.slot_list_extend PySem.F.type_list_extend mt_extend (pv 12) (pa_cons (pe_lst (pa_cons (pe_ix ix_tup (pe_cx (E := fun _ => E0) G hr (Nat.le_refl _) (by rfl) at0 (pa_cons pe_int (pa_cons (pv 1) (pa_cons (pv 1) pa_nil)))) pe_int (fun _ _ => rfl)) (pa_cons (pe_ix ix_tup (pe_cx (E := fun _ => E0) G hr (Nat.le_refl _) (by rfl) at0 (pa_cons pe_int (pa_cons (pv 1) (pa_cons (pv 10) pa_nil)))) pe_int (fun _ _ => rfl)) pa_nil))) pa_nil)))
      (pss_cons (ps_expr (pe_bm PySem.F.plainAttrs_list PySem.F.slot_list_append PySem.F.type_list_append mt_append (pv 12) (pa_cons (pe_ix ix_tup (pe_cx (E := fun _ => E0) G hr (Nat.le_refl _) (by rfl) at0 (pa_cons pe_int (pa_cons (pv 11) (pa_cons (pe_ix ix_tup (pe_cx (E := fun _ => E0) G hr (Nat.le_refl _) (by rfl) at0 (pa_cons pe_int (pa_cons (pe_ix ix_tup (pe_ix ix_list (pv 0) pe_int (fun _ _ => rfl)) pe_int (fun _ _ => rfl)) (pa_cons (pv 2) pa_nil)))) pe_int (fun _ _ => rfl)) pa_nil)))) pe_int (fun _ _ => rfl)) pa_nil)))
      (pss_one (ps_ret (pe_cmpR (op_eqD hr.units) (pe_op op_cat (pv 12) (pe_lst (pa_cons (pe_ix ix_tup (pe_cx (E := fun _ => E0) G hr (Nat.le_refl _) (by rfl) at0 (pa_cons pe_int (pa_cons (pv 9) (pa_cons (pv 6) pa_nil)))) pe_int (fun _ _ => rfl)) pa_nil))) (pe_lst (pa_cons pe_str (pa_cons pe_str (pa_cons pe_str (pa_cons pe_str (pa_cons pe_str (pa_cons pe_str (pa_cons pe_str pa_nil)))))))) (nomark _)))))))))))))), ?_⟩
    obtain ⟨v0, v1, v2, v3, v4, v5, rfl, ⟨t0, a0, rfl, g0, p0, _⟩, ⟨t2, a2, rfl, g2, p2, _⟩, ⟨t3, a3, rfl, g3, p3, _⟩, ⟨t4, a4, rfl, g4, p4, _⟩, ⟨t5, a5, rfl, g5, p5, _⟩⟩ := kn7 hk
    refine q_unpL4 (x1 := .ref a2) (x2 := .ref a3) (x3 := .ref a4) (x4 := .ref a5) (el_lcNLy (K := K) (xs := [.ref t2, .ref t3, .ref t4, .ref t5]) (el_sl (ev_var rfl) (eo_some ev_c) (eo_some ev_c) (sq_of hl)) (by show 4 ≤ 40000; decide) (fun _ => rfl) rfl (fun i x y H1 e1 hx hy => ?_)) [some (.ref l), none, some (.ref a2), some (.ref a3), some (.ref a4), some (.ref a5), none, none, none, none, none, none, none] rfl (fun H1 e1 => ?_)
    · match i, hx, hy with
      | 0, hx, hy =>
        cases hx; cases hy
        exact ev_op (ev_var rfl) ev_c (rv_ixT (st_of (e1 _ _ g2)) rfl)
      | 1, hx, hy =>
        cases hx; cases hy
        exact ev_op (ev_var rfl) ev_c (rv_ixT (st_of (e1 _ _ g3)) rfl)
      | 2, hx, hy =>
        cases hx; cases hy
        exact ev_op (ev_var rfl) ev_c (rv_ixT (st_of (e1 _ _ g4)) rfl)
      | 3, hx, hy =>
        cases hx; cases hy
        exact ev_op (ev_var rfl) ev_c (rv_ixT (st_of (e1 _ _ g5)) rfl)
      | _ + 4, hx, _ => cases hx
    refine q_asgR (d := 9) (z := 383) (c := false) (n := 0) (er_done (K := K) (way := 1) (er_of (ev_var rfl) (p5.ex e1) (fa_tr (n := 6) (d := 8) (z := 255) (by decide) (by decide))) (er_of (ev_var rfl) (p4.ex e1) (fa_tr (n := 5) (d := 7) (z := 127) (by decide) (by decide))) ⟨by decide, by decide⟩ ⟨by decide, by decide⟩ (fun z => absurd z (by decide)) rfl rfl rfl rfl rfl) (fun b2 r2 H2 e2 hp2 f2 => ?_)
    refine q_asgR (d := 10) (z := 399) (c := false) (n := 0) (er_done (K := K) (way := 1) (er_of (ev_var rfl) hp2 f2) (er_of (ev_var rfl) (p3.ex (e1.trans e2)) (fa_tr (n := 2) (d := 4) (z := 15) (by decide) (by decide))) ⟨by decide, by decide⟩ ⟨by decide, by decide⟩ (fun z => absurd z (by decide)) rfl rfl rfl rfl rfl) (fun b3 r3 H3 e3 hp3 f3 => ?_)
    refine q_asgR (d := 11) (z := 400) (c := false) (n := 0) (er_done (K := K) (way := 0) (er_of (ev_var rfl) hp3 f3) (er_of (ev_var rfl) hp3 f3) ⟨by decide, by decide⟩ ⟨by decide, by decide⟩ (fun z => absurd z (by decide)) rfl rfl rfl rfl rfl) (fun b4 r4 H4 e4 hp4 f4 => ?_)
    refine q_asgR (d := 20) (z := 20) (c := false) (n := 0) (er_done (K := K) (way := 0) (er_done (K := K) (way := 0) (er_of (ev_var rfl) (p2.ex (((e1.trans e2).trans e3).trans e4)) fa_tn17) (er_of (ev_var rfl) (p2.ex (((e1.trans e2).trans e3).trans e4)) fa_tn17) ⟨by decide, by decide⟩ ⟨by decide, by decide⟩ (fun z => absurd z (by decide)) rfl rfl rfl rfl rfl) (er_of (ev_var rfl) (p2.ex (((e1.trans e2).trans e3).trans e4)) fa_tn17) ⟨by decide, by decide⟩ ⟨by decide, by decide⟩ (fun z => absurd z (by decide)) rfl rfl rfl rfl rfl) (fun b5 r5 H5 e5 hp5 f5 => ?_)
    refine q_asgR (d := 9) (z := 256) (c := true) (n := 1) (er_done (K := K) (way := 2) (er_of (ev_var rfl) (p5.ex ((((e1.trans e2).trans e3).trans e4).trans e5)) (fa_tr (n := 6) (d := 8) (z := 255) (by decide) (by decide))) (er_of (ev_var rfl) (p5.ex ((((e1.trans e2).trans e3).trans e4).trans e5)) (fa_tr (n := 6) (d := 8) (z := 255) (by decide) (by decide))) ⟨by decide, by decide⟩ ⟨by decide, by decide⟩ (fun z => absurd z (by decide)) rfl rfl rfl rfl rfl) (fun b6 r6 H6 e6 hp6 f6 => ?_)
    refine q_asgR (d := 9) (z := 144) (c := true) (n := 1) (er_done (K := K) (way := 2) (er_done (K := K) (way := 1) (er_of (ev_var rfl) (p4.ex (((((e1.trans e2).trans e3).trans e4).trans e5).trans e6)) (fa_tr (n := 5) (d := 7) (z := 127) (by decide) (by decide))) (er_of (ev_var rfl) (p3.ex (((((e1.trans e2).trans e3).trans e4).trans e5).trans e6)) (fa_tr (n := 2) (d := 4) (z := 15) (by decide) (by decide))) ⟨by decide, by decide⟩ ⟨by decide, by decide⟩ (fun z => absurd z (by decide)) rfl rfl rfl rfl rfl) (er_of (ev_var rfl) (p3.ex (((((e1.trans e2).trans e3).trans e4).trans e5).trans e6)) (fa_tr (n := 2) (d := 4) (z := 15) (by decide) (by decide))) ⟨by decide, by decide⟩ ⟨by decide, by decide⟩ (fun z => absurd z (by decide)) rfl rfl rfl rfl rfl) (fun b7 r7 H7 e7 hp7 f7 => ?_)
    refine q_asgR (d := 9) (z := 400) (c := true) (n := 2) (er_done (K := K) (way := 4) (er_of (ev_var rfl) (hp6.ex e7) f6) (er_of (ev_var rfl) hp7 f7) ⟨by decide, by decide⟩ ⟨by decide, by decide⟩ (fun _ => rfl) rfl rfl rfl rfl rfl) (fun b8 r8 H8 e8 hp8 f8 => ?_)
    refine q_asgL (xs := [.str "", .str "size", .str "size"]) (el_lst (ea_cons (ev_done (K := K) (way := 0) (f := "") (er_of (ev_var rfl) (hp3.ex ((((e4.trans e5).trans e6).trans e7).trans e8)) f3) (er_of (ev_var rfl) (hp3.ex ((((e4.trans e5).trans e6).trans e7).trans e8)) f3) ⟨by decide, by decide⟩ ⟨by decide, by decide⟩ rfl rfl) (ea_cons (ev_done (K := K) (way := 0) (f := "size") (er_of (ev_var rfl) (hp4.ex (((e5.trans e6).trans e7).trans e8)) f4) (er_of (ev_var rfl) (hp4.ex (((e5.trans e6).trans e7).trans e8)) f4) ⟨by decide, by decide⟩ ⟨by decide, by decide⟩ rfl rfl) (ea_cons (ev_done (K := K) (way := 1) (f := "size") (er_of (ev_var rfl) (hp3.ex ((((e4.trans e5).trans e6).trans e7).trans e8)) f3) (er_of (ev_op (ev_op (ev_var rfl) ev_c (rv_ixL (sq_of ((((((((e1.trans e2).trans e3).trans e4).trans e5).trans e6).trans e7).trans e8) _ _ hl)) rfl)) ev_c (rv_ixT (st_of ((((((((e1.trans e2).trans e3).trans e4).trans e5).trans e6).trans e7).trans e8) _ _ g0)) rfl)) (p0.ex (((((((e1.trans e2).trans e3).trans e4).trans e5).trans e6).trans e7).trans e8)) fa_stop) ⟨by decide, by decide⟩ ⟨by decide, by decide⟩ rfl rfl) ea_nil))) (by show 3 ≤ 100000; decide)) (fun l12 H9 n12 e9 h12 => ?_)
    refine q_extL (xs := [.str "", .str "size", .str "size"]) (ys := [.str "size", .str ""]) h12 (ev_var rfl) (el_lst (ea_cons (ev_done (K := K) (way := 4) (f := "size") (er_of (ev_var rfl) (hp6.ex ((e7.trans e8).trans e9)) f6) (er_of (ev_var rfl) (hp6.ex ((e7.trans e8).trans e9)) f6) ⟨by decide, by decide⟩ ⟨by decide, by decide⟩ rfl rfl) (ea_cons (ev_done (K := K) (way := 4) (f := "") (er_of (ev_var rfl) (hp6.ex ((e7.trans e8).trans e9)) f6) (er_of (ev_var rfl) (hp7.ex (e8.trans e9)) f7) ⟨by decide, by decide⟩ ⟨by decide, by decide⟩ rfl rfl) ea_nil)) (by show 2 ≤ 100000; decide)) (by show 5 ≤ sizeLine; decide) (fun H10' e10' => ?_)
    have y10 : Ex H8 (upd H10' l12 (.lst ([.str "", .str "size", .str "size"] ++ [.str "size", .str ""]))) := Ex.mut (e9.trans e10') n12
    refine q_app (v := .str "size") upd_same (ev_var rfl) (ev_done (K := K) (way := 4) (f := "size") (er_of (ev_var rfl) (hp8.ex y10) f8) (er_done (K := K) (way := 2) (er_of (ev_op (ev_op (ev_var rfl) ev_c (rv_ixL (sq_of (((((((((e1.trans e2).trans e3).trans e4).trans e5).trans e6).trans e7).trans e8).trans y10) _ _ hl)) rfl)) ev_c (rv_ixT (st_of (((((((((e1.trans e2).trans e3).trans e4).trans e5).trans e6).trans e7).trans e8).trans y10) _ _ g0)) rfl)) (p0.ex ((((((((e1.trans e2).trans e3).trans e4).trans e5).trans e6).trans e7).trans e8).trans y10)) fa_stop) (er_of (ev_var rfl) (p2.ex ((((((((e1.trans e2).trans e3).trans e4).trans e5).trans e6).trans e7).trans e8).trans y10)) fa_tn17) ⟨by decide, by decide⟩ ⟨by decide, by decide⟩ (fun z => absurd z (by decide)) rfl rfl rfl rfl rfl) ⟨by decide, by decide⟩ ⟨by decide, by decide⟩ rfl rfl) (by show 5 < 100000; decide) (fun H11' e11' => ?_)
    have y11 : Ex H8 (upd H11' l12 (.lst (([.str "", .str "size", .str "size"] ++ [.str "size", .str ""]) ++ [.str "size"]))) := Ex.mut (y10.trans e11') n12
    refine s_ret (v := .bl true) (ev_opLL (xs := [.str "", .str "size", .str "size", .str "size", .str "", .str "size", .str "depth"]) (ys := [.str "", .str "size", .str "size", .str "size", .str "", .str "size", .str "depth"]) (el_catL (xs := [.str "", .str "size", .str "size", .str "size", .str "", .str "size"]) (ys := [.str "depth"]) (ev_var rfl) upd_same (el_lst (ea_cons (ev_done (K := K) (way := 1) (f := "depth") (er_of (ev_var rfl) (hp5.ex (((e6.trans e7).trans e8).trans y11)) f5) (er_of (ev_var rfl) (hp2.ex ((((((e3.trans e4).trans e5).trans e6).trans e7).trans e8).trans y11)) f2) ⟨by decide, by decide⟩ ⟨by decide, by decide⟩ rfl rfl) ea_nil) (by show 1 ≤ 100000; decide)) (by show 7 ≤ sizeLine; decide)) (el_lst (ea_cons ev_c (ea_cons ev_c (ea_cons ev_c (ea_cons ev_c (ea_cons ev_c (ea_cons ev_c (ea_cons ev_c ea_nil))))))) (by show 7 ≤ 100000; decide)) (fun u1 u2 H9 z1 z2 _ => ?_)) (fun H9 e9 => q H9 ((((((((((e1.trans e2).trans e3).trans e4).trans e5).trans e6).trans e7).trans e8).trans y11)).trans e9))
    exact rv_eqD4 (d := .list [.str "", .str "size", .str "size", .str "size", .str "", .str "size", .str "depth"]) (fun H3 e3 => .lst (sq_of (e3 _ _ z1)) (.cons (.str _) (.cons (.str _) (.cons (.str _) (.cons (.str _) (.cons (.str _) (.cons (.str _) (.cons (.str _) (.nil))))))))) (fun H3 e3 => .lst (sq_of (e3 _ _ z2)) (.cons (.str _) (.cons (.str _) (.cons (.str _) (.cons (.str _) (.cons (.str _) (.cons (.str _) (.cons (.str _) (.nil))))))))) (by decide +kernel)
end
end Fs

set_option Elab.async false
set_option linter.all false
set_option maxRecDepth 100000
set_option maxHeartbeats 8000000
namespace Fs
open PySem L2 Evl FsE FsC FsR FsT
def spLaw (K : PySem.W.Frag) : Sp := fun vs H Q _ => ∃ (a : Addr) (ns : List Int), vs = [.ref a] ∧ SqL K H a (ns.map V.int) ∧ RetV (.bl true) H Q
theorem row_get4 {row : List Int} {n i : Nat} (hl : row.length = n) (hr : RowOk row) (hi : i < n) : ∃ v, atI (row.map V.int) (i : Int) = some (.int v) ∧ 0 ≤ v ∧ v < 1000 := by
  have h : i < row.length := by omega
  refine ⟨row[i], atI_nat (by rw [List.getElem?_map, List.getElem?_eq_getElem h]; rfl), ?_⟩
  exact hr _ (List.getElem_mem h)
section
variable {σ : L2.St} {H : Hp} {ta tb td tn tw : TE} {tz : TS} {D : Ends} {K : PySem.W.Frag} {C : Addr} {E : L2.St → XK}
theorem q_pick {i : Nat} {l : Addr} {vs : List V} {d : Int} (hl : H l = some (.lst vs)) (ha : Ev ta σ H (.ref l)) (hd : Ev td σ H (.int d)) (hn : Ev tn σ H (.int (vs.length : Int))) (h1 : 1 ≤ vs.length) (k : ∀ (j : Nat) (v : V) H1, Ex H H1 → vs[j]? = some v → j < vs.length → tz D (σ.set i (some v)) H1) :
    tSeq (tAsg (tOp (rIxL K) ta (tCallS spPick E (tCons td (tCons tn tNil)))) (gName i)) tz D σ H :=
  ha H (Ex.refl H) _ fun H1 e1 => hd H1 e1 _ fun H2 e2 => hn H2 (e1.trans e2) _ fun H3 e3 => ⟨d, vs.length, rfl, h1, fun j hj H4 e4 => rv_ixL (sq_of ((((e1.trans e2).trans e3).trans e4) _ _ hl)) (atI_nat (List.getElem?_eq_getElem hj)) H4 (Ex.refl H4) _ (fun H5 e5 => k j _ H5 ((((e1.trans e2).trans e3).trans e4).trans e5) (List.getElem?_eq_getElem hj) hj)⟩
theorem q_done2 {i j : Nat} {way : Int} {a b : Addr} {p r : Pr} (hw : Ev tw σ H (.int way)) (ha : Ev ta σ H (.ref a)) (hb : Ev tb σ H (.ref b)) (pa : PrAt C H a p) (pb : PrAt C H b r) (lp : p.ofs.len ≤ 40) (lr : r.ofs.len ≤ 40)
    (k1 : bad4 way p r = none → ∀ c H1, Ex H H1 → PrAt C H1 c (mk4 way p r) → tz D ((σ.set i (some (.ref c))).set j (some (.str ""))) H1) (k2 : ∀ f, bad4 way p r = some f → ∀ H1, Ex H H1 → tz D ((σ.set i (some (.ref a))).set j (some (.str f))) H1) :
    tSeq (tAsg (tCallS (spDone C) E (tCons tw (tCons ta (tCons tb tNil)))) (gTup K 2 (gCons (gName i) (gCons (gName j) gNil)))) tz D σ H :=
  hw H (Ex.refl H) _ fun H1 e1 => ha H1 e1 _ fun H2 e2 => hb H2 (e1.trans e2) _ fun H3 e3 => ⟨way, a, b, p, r, rfl, pa.ex ((e1.trans e2).trans e3), pb.ex ((e1.trans e2).trans e3), lp, lr,
    fun hn t c H4 _ e4 h4 hc => ⟨t, _, rfl, st_of h4, rfl, _, _, rfl, _, _, rfl, rfl, k1 hn c H4 (((e1.trans e2).trans e3).trans e4) hc⟩,
    fun f hf t H4 _ e4 h4 => ⟨t, _, rfl, st_of h4, rfl, _, _, rfl, _, _, rfl, rfl, k2 f hf H4 (((e1.trans e2).trans e3).trans e4)⟩⟩
end
theorem due_ne {way : Int} {p r : Pr} {f : Str} (h : due4 way p r = some f) : ¬ V.str f = V.str "" := by
  have lim : ∀ d z : Int, lim4 d z = some f → ¬ V.str f = V.str "" := fun d z hz => by
    unfold lim4 at hz
    by_cases h1 : d ≤ 20
    · by_cases h2 : z ≤ 400
      · rw [if_pos h1, if_pos h2] at hz
        cases hz
      · rw [if_pos h1, if_neg h2] at hz
        cases hz
        decide +kernel
    · rw [if_neg h1] at hz
      cases hz
      decide +kernel
  unfold due4 at h
  by_cases h3 : 3 < way
  · rw [if_pos h3] at h
    by_cases hc : (p.isCh && r.isCh) = true
    · rw [if_pos hc] at h
      by_cases h6 : p.ofs.len + r.ofs.len ≤ 6
      · rw [if_pos h6] at h
        exact lim _ _ h
      · rw [if_neg h6] at h
        cases h
        decide +kernel
    · rw [if_neg hc] at h
      cases h
      decide +kernel
  · rw [if_neg h3] at h
    exact lim _ _ h
theorem due_len {way : Int} {p r : Pr} (h0 : 0 ≤ way) (h5 : way ≤ 5) (h : due4 way p r = none) : (3 < way → (p.isCh && r.isCh) = true) ∧ (mk4 way p r).ofs.len ≤ 6 := by
  unfold due4 at h
  by_cases h3 : 3 < way
  · rw [if_pos h3] at h
    by_cases hc : (p.isCh && r.isCh) = true
    · rw [if_pos hc] at h
      by_cases h6 : p.ofs.len + r.ofs.len ≤ 6
      · have hm := (mk_dep h0 h5 (fun _ => hc)).2.2.2
        rw [if_pos h3] at hm
        exact ⟨fun _ => hc, by omega⟩
      · rw [if_neg h6] at h
        cases h
    · rw [if_neg hc] at h
      cases h
  · have hm := (mk_dep (p := p) (r := r) h0 h5 (fun z => absurd z h3)).2.2.2
    rw [if_neg h3] at hm
    refine ⟨fun z => absurd z h3, ?_⟩
    by_cases h1 : 1 < way
    · rw [if_pos h1] at hm
      omega
    · rw [if_neg h1] at hm
      omega
section
variable {P : Program} {w : World} {K : PySem.W.Frag} {mg : Str → Option Value} {base : Heap} {C CB : Addr}
abbrev nsLaw : List Str := ["_law_script", "_law_known", "_law_row_here", "_law_k", "_law_way", "_law_first", "_law_second", "_law_due_here", "_law_made", "_law_field"]
theorem scLawT : FnScope nsLaw ["_law_script"] (defScope (topS 40)) := ⟨rfl, rfl, rfl, by decide +kernel, rfl, by decide +kernel, by decide +kernel⟩
theorem ok_law {f : Addr} {fd : FuncData} {k : Nat} (hk : 2 ≤ k) (F : Fun K "law" "law" (topS 40) f fd) (L : LawT K mg) (GC : CalX P w K mg base CX0 1 "_law_cell_at" (spCellAt K)) (GR : CalX P w K mg base CX0 2 "_law_row" spRow) (GP : CalX P w K mg base CX0 1 "_law_pick" spPick) (GU : CalX P w K mg base CX0 1 "_law_due" spDue)
    (GB : CalX P w K mg base CX0 k "_law_bases" (spBases C)) (GD : CalX P w K mg base CX0 k "_law_done" (spDone C)) (GT : CalX P w K mg base CX0 (k + 1) "_law_tail" (spTail C)) : FnOk P w K mg base CX0 (k + 2) f fd ["_law_script"] (spLaw K) := by
  refine F.ok scLawT (fun vs H Q E h => ?_) (fun cdv A outer s H vs Q E hr h => ?_)
  · obtain ⟨a, ns, rfl, _⟩ := h
    rfl
  · obtain ⟨a, ns, rfl, hS, q⟩ := h
    refine ⟨_, pss_cons (ps_set (i := 1) scLawT.nd rfl (Or.inl rfl) (pe_cx0 (E := E0) GB hr (by omega) (by rfl) (fun _ _ _ _ _ _ _ h => h.elim)))
      (pss_cons (ps_set (i := 2) scLawT.nd rfl (Or.inl rfl) (pe_cx (E := fun _ => E0) GR hr (by omega) (by rfl) at0 (pa_cons (pe_cx (E := fun _ => E0) GC hr (by omega) (by rfl) at0 (pa_cons (pv 0) (pa_cons pe_int pa_nil))) (pa_cons pe_int pa_nil))))
      (pss_cons (ps_for PassesOwn.never rfl (pi_range1 rfl L.range (pa_cons pe_int pa_nil)) (pg_name (i := 3) scLawT.nd rfl (Or.inl rfl))
        (pss_cons (ps_set (i := 4) scLawT.nd rfl (Or.inl rfl) (pe_op op_mod (pe_callTy call_int1 (by rfl) L.int (by decide +kernel) (pa_cons (pe_ix ix_list (pv 2) (pe_op op_mul pe_int (pv 3)) (fun _ _ => rfl)) pa_nil)) pe_int))
        (pss_cons (ps_set (i := 5) scLawT.nd rfl (Or.inl rfl) (pe_ix ix_list (pv 1) (pe_cx (E := fun _ => E0) GP hr (by omega) (by rfl) at0 (pa_cons (pe_ix ix_list (pv 2) (pe_op op_add (pe_op op_mul pe_int (pv 3)) pe_int) (fun _ _ => rfl)) (pa_cons (pe_callB call_len_seq (by rfl) L.len PySem.boot_len (pa_cons (pv 1) pa_nil)) pa_nil))) (fun _ _ => rfl)))
        (pss_cons (ps_set (i := 6) scLawT.nd rfl (Or.inl rfl) (pe_ix ix_list (pv 1) (pe_cx (E := fun _ => E0) GP hr (by omega) (by rfl) at0 (pa_cons (pe_ix ix_list (pv 2) (pe_op op_add (pe_op op_mul pe_int (pv 3)) pe_int) (fun _ _ => rfl)) (pa_cons (pe_callB call_len_seq (by rfl) L.len PySem.boot_len (pa_cons (pv 1) pa_nil)) pa_nil))) (fun _ _ => rfl)))
        (pss_cons (ps_set (i := 7) scLawT.nd rfl (Or.inl rfl) (pe_cx (E := fun _ => E0) GU hr (by omega) (by rfl) at0 (pa_cons (pv 4) (pa_cons (pv 5) (pa_cons (pv 6) pa_nil)))))
        (pss_cons (ps_asg (pe_cx (E := fun _ => E0) GD hr (by omega) (by rfl) at0 (pa_cons (pv 4) (pa_cons (pe_ix ix_tup (pv 5) pe_int (fun _ _ => rfl)) (pa_cons (pe_ix ix_tup (pv 6) pe_int (fun _ _ => rfl)) pa_nil)))) (pg_tup rfl (pgs_cons (pg_name (i := 8) scLawT.nd rfl (.inl rfl)) (pgs_cons (pg_name (i := 9) scLawT.nd rfl (.inl rfl)) pgs_nil))))
        (pss_cons (ps_if (pt_cmpR op_ne (pv 9) (pe_ix ix_tup (pv 7) pe_int (fun _ _ => rfl)) (nomark _)) (pss_one (ps_ret pe_bl)) pss_nil)
        (pss_one (ps_if (pt_cmpR op_eq (pv 9) pe_str (nomark _)) (pss_one (ps_expr (pe_bm PySem.F.plainAttrs_list PySem.F.slot_list_append PySem.F.type_list_append mt_append (pv 1) (pa_cons (pe_tup (pa_cons (pv 8) (pa_cons (pe_ix ix_tup (pv 7) pe_int (fun _ _ => rfl)) (pa_cons (pe_ix ix_tup (pv 7) pe_int (fun _ _ => rfl)) (pa_cons (pe_ix ix_tup (pv 7) pe_int (fun _ _ => rfl)) (pa_cons (pe_ix ix_tup (pv 7) pe_int (fun _ _ => rfl)) pa_nil)))))) pa_nil)))) pss_nil)))))))))
      (pss_one (ps_ret (pe_cx (E := fun _ => E0) GT hr (by omega) (by rfl) at0 (pa_cons (pe_cx0 (E := E0) GB hr (by omega) (by rfl) (fun _ _ _ _ _ _ _ h => h.elim)) pa_nil)))))), ?_⟩
    refine ⟨rfl, fun l H1 vs0 hl e1 h1 k1 => ?_⟩
    refine ⟨_, rfl, a, ns, 0, rfl, ex_l e1 hS, fun c H2 e2 => ⟨c, 75, rfl, by decide, fun row hrow hok rl H3 hrl e3 h3 => ?_⟩⟩
    have nrl : rl ≠ l := fun z => by
      rw [z, e2 _ _ h1] at hrl
      cases hrl
    have hlen0 : vs0.length = 6 := k1.length
    refine q_forR1 (n := 25) (ea_cons ev_c ea_nil) (by decide) (fun i σ' H' => ∃ (vs : List V) (ps : List Pr) (v3 v4 v5 v6 v7 v8 v9 : Option V), σ' = [some (.ref a), some (.ref l), some (.ref rl), v3, v4, v5, v6, v7, v8, v9] ∧ H' l = some (.lst vs) ∧ KnL C H' vs ps ∧ 6 ≤ vs.length ∧ vs.length ≤ 6 + i ∧ H' rl = some (.lst (row.map V.int)) ∧ Ex H H')
      (fun H4 e4 => ⟨vs0, _, _, _, _, _, _, _, _, rfl, ((e2.trans e3).trans e4) _ _ h1, k1.ex ((e2.trans e3).trans e4), by omega, by omega, e4 _ _ h3, ((e1.trans e2).trans e3).trans e4⟩)
      (fun i σ' H' hi ⟨vs, ps, v3, v4, v5, v6, v7, v8, v9, hσ, hv, hkn, hz6, hz, hrow', he⟩ => ?_) (fun σ' H4 ⟨vs, ps, v3, v4, v5, v6, v7, v8, v9, hσ, hv, hkn, hz6, hz, hrow', he⟩ => ?_)
    · subst hσ
      have hi25 : i < 25 := by omega
      obtain ⟨x0, g0, b0, c0⟩ := row_get4 hrow hok (i := 3 * i) (by omega)
      obtain ⟨x1, g1, b1, c1⟩ := row_get4 hrow hok (i := 3 * i + 1) (by omega)
      obtain ⟨x2, g2, b2, c2⟩ := row_get4 hrow hok (i := 3 * i + 2) (by omega)
      have m0 : ((3 * i : Nat) : Int) = 3 * (i : Int) := by omega
      have m1 : ((3 * i + 1 : Nat) : Int) = 3 * (i : Int) + 1 := by omega
      have m2 : ((3 * i + 2 : Nat) : Int) = 3 * (i : Int) + 2 := by omega
      rw [m0] at g0
      rw [m1] at g1
      rw [m2] at g2
      have cm : CMul 3 (i : Int) := .inl ⟨by decide, by decide⟩
      refine q_asg (v := .int (x0 % 6)) (ev_op (x := .int x0) (ev_cb (ea_cons (ev_op (ev_var rfl) (ev_op ev_c (ev_var rfl) (rv_I cm)) (rv_ixL (sq_of hrow') g0)) ea_nil) (rc_int (K := K))) ev_c (rv_I (by decide))) (fun H4 e4 => ?_)
      generalize hway : x0 % 6 = way
      have w0 : 0 ≤ way := by omega
      have w5 : way ≤ 5 := by omega
      have ln : ∀ H9, Ex H' H9 → RC (fun xs H Q => ∃ p ys, xs = [V.ref p] ∧ (SqL K H p ys ∨ SqT K H p ys) ∧ Q (.int ys.length) H) [.ref l] H9 (.int (vs.length : Int)) := fun H9 e9 H10 e10 Q' q' => ⟨l, vs, rfl, .inl (sq_of ((e9.trans e10) _ _ hv)), q' H10 (Ex.refl H10)⟩
      refine q_pick (d := x1) (e4 _ _ hv) (ev_var rfl) (ev_op (ev_var rfl) (ev_op (ev_op ev_c (ev_var rfl) (rv_I cm)) ev_c rv_I0) (rv_ixL (sq_of (e4 _ _ hrow')) g1)) (ev_cb (ea_cons (ev_var rfl) ea_nil) (ln H4 e4)) (by omega) (fun j1 u1 H5 e5 hu1 hj1 => ?_)
      have z5 := e4.trans e5
      obtain ⟨u1', p, hu1', hp1, t1, a1, rfl, ht1, hpa, hpl⟩ := KnL.get hkn hj1
      obtain rfl : u1 = .ref t1 := Option.some.inj (hu1.symm.trans hu1')
      refine q_pick (d := x2) (z5 _ _ hv) (ev_var rfl) (ev_op (ev_var rfl) (ev_op (ev_op ev_c (ev_var rfl) (rv_I cm)) ev_c rv_I0) (rv_ixL (sq_of (z5 _ _ hrow')) g2)) (ev_cb (ea_cons (ev_var rfl) ea_nil) (ln H5 z5)) (by omega) (fun j2 u2 H6 e6 hu2 hj2 => ?_)
      have z6 := z5.trans e6
      obtain ⟨u2', r, hu2', hp2, t2, a2, rfl, ht2, hra, hrl⟩ := KnL.get hkn hj2
      obtain rfl : u2 = .ref t2 := Option.some.inj (hu2.symm.trans hu2')
      refine ⟨_, rfl, _, rfl, _, rfl, way, t1, t2, a1, a2, p, r, rfl, z6 _ _ ht1, z6 _ _ ht2, w0, w5, fun t H7 htn e7 ht => ?_⟩
      have z7 := z6.trans e7
      have rw1 : ∀ {H9 : Hp}, Ex H' H9 → H9 t1 = some (.tup [.ref a1, .bl p.isCh, .int (p.ofs.len : Int), .int p.depth, .int p.size]) := fun e9 => e9 _ _ ht1
      have rw2 : ∀ {H9 : Hp}, Ex H' H9 → H9 t2 = some (.tup [.ref a2, .bl r.isCh, .int (r.ofs.len : Int), .int r.depth, .int r.size]) := fun e9 => e9 _ _ ht2
      refine q_done2 (E := fun _ => E0) (p := p) (r := r) (ev_var rfl) (ev_op (ev_var rfl) ev_c (rv_ixT (st_of (rw1 z7)) rfl)) (ev_op (ev_var rfl) ev_c (rv_ixT (st_of (rw2 z7)) rfl)) (hpa.ex z7) (hra.ex z7) (by omega) (by omega) (fun hn cc H8 e8 hcc => ?_) (fun fl hf H8 e8 => ?_)
      · rw [bad_due w0 w5] at hn
        have hdt : dueT way p r = [.str "", .bl (decide (1 < way)), .int (off4 way p r), .int (dep4 way p r), .int (siz4 way p r)] := by unfold dueT; rw [hn]
        rw [hdt] at ht
        obtain ⟨hcc2, hl6⟩ := due_len w0 w5 hn
        obtain ⟨n1, n2, n3, n4⟩ := mk_dep (p := p) (r := r) w0 w5 hcc2
        have z8 := z7.trans e8
        have ht8 := e8 _ _ ht
        refine q_when (b := false) (et_is (et_test (ev_op (x := .str "") (y := .str "") (ev_var rfl) (ev_op (ev_var rfl) ev_c (rv_ixT (st_of ht8) rfl)) (rv_ne rfl))) (by decide +kernel)) (fun hb => nomatch hb) (fun _ H9 e9 => ?_)
        refine s_when (b := true) (et_is (et_test (ev_op (x := .str "") (y := .str "") (ev_var rfl) ev_c (rv_eq rfl))) (by decide +kernel)) (fun _ H10 e10 => ?_) (fun hb => nomatch hb)
        have z10 := (z8.trans e9).trans e10
        have ht10 := (e9.trans e10) _ _ ht8
        refine s_appU (xs := vs) (z10 _ _ hv) (ev_var rfl) (eu_tup (vs := [.ref cc, .bl (decide (1 < way)), .int (off4 way p r), .int (dep4 way p r), .int (siz4 way p r)]) (ea_cons (ev_var rfl) (ea_cons (ev_op (ev_var rfl) ev_c (rv_ixT (st_of ht10) rfl)) (ea_cons (ev_op (ev_var rfl) ev_c (rv_ixT (st_of ht10) rfl)) (ea_cons (ev_op (ev_var rfl) ev_c (rv_ixT (st_of ht10) rfl)) (ea_cons (ev_op (ev_var rfl) ev_c (rv_ixT (st_of ht10) rfl)) ea_nil))))) (by show 5 ≤ 100000; decide)) (by omega) (fun t9 H11 _ e11 h11 => ?_)
        have z11 := z10.trans e11
        have hv11 := z11 _ _ hv
        refine ⟨vs ++ [.ref t9], ps ++ [mk4 way p r], _, _, _, _, _, _, _, rfl, upd_same, KnL.snoc (KnE.keep (ExN.upd hv11) (KnE.mk h11 (hcc.ex ((e9.trans e10).trans e11)) n3 n4 n1 n2 hl6)) (KnL.keep (ExN.upd hv11) (hkn.ex z11)), ?_, ?_, ?_, Ex.mut (he.trans z11) hl⟩
        · rw [List.length_append]
          omega
        · rw [List.length_append]
          show vs.length + 1 ≤ _
          omega
        · rw [upd_ne nrl]
          exact z11 _ _ hrow'
      · rw [bad_due w0 w5] at hf
        have hdt : dueT way p r = [.str fl, .bl false, .int 0, .int 0, .int 0] := by unfold dueT; rw [hf]
        rw [hdt] at ht
        have z8 := z7.trans e8
        have ht8 := e8 _ _ ht
        have hne := due_ne hf
        refine q_when (b := false) (et_is (et_test (ev_op (x := .str fl) (y := .str fl) (ev_var rfl) (ev_op (ev_var rfl) ev_c (rv_ixT (st_of ht8) rfl)) (rv_ne rfl))) (by rw [decide_eq_true rfl]; rfl)) (fun hb => nomatch hb) (fun _ H9 e9 => ?_)
        refine s_when (b := false) (et_is (et_test (ev_op (x := .str fl) (y := .str "") (ev_var rfl) ev_c (rv_eq rfl))) (by rw [decide_eq_false hne])) (fun hb => nomatch hb) (fun _ H10 e10 => ?_)
        have z10 := (z8.trans e9).trans e10
        exact ⟨vs, ps, _, _, _, _, _, _, _, rfl, z10 _ _ hv, hkn.ex z10, hz6, by omega, z10 _ _ hrow', he.trans z10⟩
    · subst hσ
      refine ⟨rfl, fun l2 H5 vs2 hl2 e5 h5 k5 => ⟨l2, vs2, rfl, h5, k5, fun H6 e6 => q H6 ((he.trans e5).trans e6)⟩⟩
end
end Fs

set_option Elab.async false
set_option linter.all false
set_option maxRecDepth 100000
set_option maxHeartbeats 4000000
namespace FsB
open PySem PySem.W PySem.Calls PyProof.Rows PySem.HandSPX
/-- a made one -/
structure BtMade (h h' : Heap) (e C d : Addr) (v : Value) : Prop where
  keep : ∀ b o, h.get? b = some o → h'.get? b = some o
  big : h.objs.size ≤ e
  obj : ∃ t1 : Addr, h'.get? e = some { cls := .ref C, dict := some d, data := .fields #[.ref t1, .none, .none, .none, .bool false, .none] }
  dbig : h.objs.size ≤ d
  dne : d ≠ e
  ns : h'.Ns1 d (fun y => if y = "field" then some v else none)
section
variable {prog : Program} {w : World} {A : Around} {R : Result → Shared → Prop} {s : Shared} {K : Frag} {mg : Str → Option Value} {x0 : Str} {C fI : Addr}
theorem bt_made (T : ErrTxt prog K mg x0 C fI) {v : Value} (X : K.In s.heap) (G : s.heap.Ns mainGlobals mg) (Bl : ∃ mb, s.heap.Ns builtinsNs mb ∧ mb "super" = some (.type "super")) (hlim : s.heap.NoLimit) (hroom : A.depth + 1 < recursionLimit)
    (hq : ∀ h' tk' e d, BtMade s.heap h' e C d v → R (.ok (.ret (.ref e))) { s with heap := h', toks := tk' }) : codeAny (model prog w) A (.call (.ref C) ⟨[v], []⟩) R s := by
  obtain ⟨nm, q, N, bs, bm, sn, sub, ab, col, dd, k0, k1, k2, k3, k5, hC, hbm⟩ := T.cls
  obtain ⟨g0, gs, dr, t, os⟩ := s
  let g2 : Heap := (g0.push (kdv_tup [v])).push (excO C g0.objs.size)
  have up : ∀ b o, g0.get? b = some o → g2.get? b = some o := fun b o e => Heap.get?_push_of_some _ (Heap.get?_push_of_some _ e)
  have at1 : g2.get? (g0.objs.size + 1) = some (excO C g0.objs.size) := by
    show ((g0.push (kdv_tup [v])).push (excO C g0.objs.size)).get? (g0.objs.size + 1) = _
    heap_get
  have sz2 : g2.objs.size = g0.objs.size + 1 + 1 := by
    show ((g0.push (kdv_tup [v])).push (excO C g0.objs.size)).objs.size = _
    rw [Heap.size_push, Heap.size_push]
  have free1 : g0.get? (g0.objs.size + 1) = none := by
    cases e : g0.get? (g0.objs.size + 1) with
    | none => rfl
    | some o => exact absurd (Nat.lt_of_succ_lt (Heap.lt_size e)) (Nat.lt_irrefl _)
  refine call_own F.excBase_ValueError (fun Y => refsVE_contains Y bm hbm) (X _ _ hC) (looks_findIn X T.iC) (fun self => bind_fn X self T.tC) (len1 _) ?_
  refine bt_init (s := ⟨g2, gs, dr, t, os⟩) (hp := g0) T X G Bl (hlim.keeps up) up (by show g0.objs.size ≤ g2.objs.size; omega) at1 free1 hroom fun h' t' dx t1 ⟨k, ho, dbig, dne, hns⟩ => ?_
  exact ⟨rfl, hq h' t' (g0.objs.size + 1) dx ⟨k, Nat.le_succ _, ⟨t1, ho⟩, dbig, dne, hns⟩⟩
end
end FsB
namespace Fs
open PySem PySem.Spec PyProof.Rows L2 FsB
theorem relO_field {f : Str} {v : V} {u : Value} (r : RelV v u) (g : Str) : RelO (List.lookup g [(f, v)]) (if g = f then some u else none) := by
  by_cases h : g = f
  · rw [h, if_pos rfl, show List.lookup f [(f, v)] = some v by simp [List.lookup]]
    exact r
  · rw [if_neg h, show List.lookup g [(f, v)] = none by simp [List.lookup, show (g == f) = false by simpa using h]]
    trivial
theorem raises_bt {P : Program} {w : World} {K : PySem.W.Frag} {mg : Str → Option Value} {base : Heap} {x : Str} {C fI : Addr} {k : Nat} (hdb : (x == ("__debug__" : Str)) = false) (T : ErrTxt P K mg x C fI) : RaisesX P w K mg base x C "field" k := by
  intro X eP ew eK em eb hr a ta p pos ha hg he hpl pins s σ H Q I h
  subst eP ew eK em eb
  refine wpAny_Call_Name_kw (ld_glob I hg T.gC ?_ hdb)
  refine PySem.W.callWith_K (h₀ := X.base) I.ok.mod.kin T.kC (thn (ha.run pos pins s σ H _ I h) fun us s1 ⟨vs, H1, I1, r1, z, ev, hz, q1⟩ => ?_) he hpl
  subst ev
  refine ⟨I1.kIn, ?_⟩
  cases r1 with
  | cons rv rn =>
    cases rn
    obtain ⟨tk, rfl⟩ := rv
    show wpAny _ _ (call (.ref C) [.str z tk]) _ _ _
    have lim := I1.nolimit
    obtain ⟨mb, b1, b2⟩ := I1.ok.mod.blt
    have gl : s1.heap.Ns mainGlobals X.mg := I1.ok.mod.glob.keeps I1.bk
    have bl : ∃ mb, s1.heap.Ns builtinsNs mb ∧ mb "super" = some (.type "super") := ⟨mb, b1.keeps I1.bk, (b2 _ (by decide)).trans Boot.«super»⟩
    obtain ⟨g0, gs, dr, t, os⟩ := s1
    refine wpAny_call (bt_made T I1.kIn gl bl lim (by have := hr.dp; omega) fun h' t' e d M => ?_)
    show MkP X pins σ Q (.ref e) ⟨h', gs, dr, t', os⟩
    obtain ⟨t1, ho⟩ := M.obj
    obtain ⟨G', ge1, ge2⟩ := restrict h' fun b => decide (b ≠ e)
    have same : ∀ b, b ≠ e → G'.get? b = h'.get? b := fun b hb => ge1 b (decide_eq_true hb)
    have gone : G'.get? e = none := ge2 e (by simp)
    have old : ∀ b o, g0.get? b = some o → G'.get? b = some o := fun b o q => (same b (Nat.ne_of_lt (Nat.lt_of_lt_of_le (Heap.lt_size q) M.big))).trans (M.keep b o q)
    have ob : ObjOk X.prog X.w (upd H1 d (.xd [(("field" : Str), V.str z)])) G' d (.xd [(("field" : Str), V.str z)]) := ⟨_, M.ns.at (fun o q => (same d M.dne).trans q), fun f => relO_field (v := V.str z) ⟨tk, rfl⟩ f⟩
    have J : Inv X pins σ (upd H1 d (.xd [(("field" : Str), V.str z)])) ⟨G', gs, dr, t', os⟩ := I1.laid (t' := t') old M.dbig ob
    refine ⟨e, _, _, ⟨G', gs, dr, t', os⟩, _, .ref C, some d, rfl, J, fun b o q => ?_, gone, ho, ⟨rfl, rfl⟩, rfl, rfl, ?_, rfl, I1.bare, raises_own T.exC T.tyC, q1 d (I1.hok.fresh M.dbig)⟩
    · by_cases hb : b = e
      · have q' : G'.get? b = some o := q
        rw [hb, gone] at q'
        cases q'
      · exact (same b hb).symm.trans q
    · rw [upd_ne (Ne.symm M.dne)]
      exact I1.hok.fresh M.big
end Fs

set_option Elab.async false
set_option linter.all false
set_option maxRecDepth 100000
set_option maxHeartbeats 8000000
namespace Fs
open PySem PySem.Spec PyProof.Rows L2 Evl FsE FsC FsR FsB
theorem exm_own {K : PySem.W.Frag} {S : Addr} (h1 : PySem.W.subIn K (.ref S) (.type "BaseException") = some true) (h2 : PySem.W.isClsIn K S = true) (h3 : PySem.W.typeIn K (.ref S) = some (.type "type")) (h4 : PySem.W.subIn K (.ref S) (.ref S) = some true) : PySem.W.exmOne K (.ref S) (.ref S) = some true := by
  unfold PySem.W.exmOne PySem.W.kitCls
  have h2' : (PySem.W.clsIn K S).isSome = true := h2
  simp only [h1, h2', h3, h4, beq_self_eq_true, Bool.and_self, if_true]
theorem kit_no {K : PySem.W.Frag} {S : Addr} {T : String} (h2 : PySem.W.isClsIn K S = true) (h3 : PySem.W.typeIn K (.ref S) = some (.type "type")) (h4 : PySem.W.subIn K (.type T) (.ref S) = some false) : PySem.W.kitOne K (.type T) (.ref S) = some false := by
  unfold PySem.W.kitOne PySem.W.kitCls
  have h2' : (PySem.W.clsIn K S).isSome = true := h2
  have h0 : (Value.type T == Value.ref S) = false := rfl
  simp only [h0, h2', h3, h4, beq_self_eq_true, Bool.and_self, if_true]
  rfl
theorem kit_own {K : PySem.W.Frag} {S : Addr} (h2 : PySem.W.isClsIn K S = true) (h3 : PySem.W.typeIn K (.ref S) = some (.type "type")) : PySem.W.kitOne K (.ref S) (.ref S) = some true := by
  unfold PySem.W.kitOne PySem.W.kitCls
  have h2' : (PySem.W.clsIn K S).isSome = true := h2
  simp only [h2', h3, beq_self_eq_true, if_true]
theorem all_mk {P : Program} {w : World} {K : PySem.W.Frag} {h : Heap} {mg : Str → Option Value} {fa : Addr} (X : K.In h) (G : h.Ns mainGlobals mg) (hfa : mg "law" = some (.ref fa))
    {fisname : Addr} {odisname anisname : Option Addr} {slisname : Array (Option Value)} {ocisname kVisname dcisname pmisname cdisname ctisname : Value}
    {farenames : Addr} {odarenames anarenames : Option Addr} {slarenames : Array (Option Value)} {ocarenames kVarenames dcarenames pmarenames cdarenames ctarenames : Value}
    {fisint : Addr} {odisint anisint : Option Addr} {slisint : Array (Option Value)} {ocisint kVisint dcisint pmisint cdisint ctisint : Value}
    {fisshort : Addr} {odisshort anisshort : Option Addr} {slisshort : Array (Option Value)} {ocisshort kVisshort dcisshort pmisshort cdisshort ctisshort : Value}
    {fisop : Addr} {odisop anisop : Option Addr} {slisop : Array (Option Value)} {ocisop kVisop dcisop pmisop cdisop ctisop : Value}
    {fisseats : Addr} {odisseats anisseats : Option Addr} {slisseats : Array (Option Value)} {ocisseats kVisseats dcisseats pmisseats cdisseats ctisseats : Value}
    {fdemand : Addr} {oddemand andemand : Option Addr} {sldemand : Array (Option Value)} {ocdemand kVdemand dcdemand pmdemand cddemand ctdemand : Value}
    {finner : Addr} {odinner aninner : Option Addr} {slinner : Array (Option Value)} {ocinner kVinner dcinner pminner cdinner ctinner : Value}
    {fsize : Addr} {odsize ansize : Option Addr} {slsize : Array (Option Value)} {ocsize kVsize dcsize pmsize cdsize ctsize : Value}
    {fdepth : Addr} {oddepth andepth : Option Addr} {sldepth : Array (Option Value)} {ocdepth kVdepth dcdepth pmdepth cddepth ctdepth : Value}
    {fischoice : Addr} {odischoice anischoice : Option Addr} {slischoice : Array (Option Value)} {ocischoice kVischoice dcischoice pmischoice cdischoice ctischoice : Value}
    {fcellat : Addr} {odcellat ancellat : Option Addr} {slcellat : Array (Option Value)} {occellat kVcellat dccellat pmcellat cdcellat ctcellat : Value}
    {fmixed : Addr} {odmixed anmixed : Option Addr} {slmixed : Array (Option Value)} {ocmixed kVmixed dcmixed pmmixed cdmixed ctmixed : Value}
    {frow : Addr} {odrow anrow : Option Addr} {slrow : Array (Option Value)} {ocrow kVrow dcrow pmrow cdrow ctrow : Value}
    {fbases : Addr} {odbases anbases : Option Addr} {slbases : Array (Option Value)} {ocbases kVbases dcbases pmbases cdbases ctbases : Value}
    {fpick : Addr} {odpick anpick : Option Addr} {slpick : Array (Option Value)} {ocpick kVpick dcpick pmpick cdpick ctpick : Value}
    {fdue : Addr} {oddue andue : Option Addr} {sldue : Array (Option Value)} {ocdue kVdue dcdue pmdue cddue ctdue : Value}
    {fdone : Addr} {oddone andone : Option Addr} {sldone : Array (Option Value)} {ocdone kVdone dcdone pmdone cddone ctdone : Value}
    {ftail : Addr} {odtail antail : Option Addr} {sltail : Array (Option Value)} {octail kVtail dctail pmtail cdtail cttail : Value}
    {flaw : Addr} {odlaw anlaw : Option Addr} {sllaw : Array (Option Value)} {oclaw kVlaw dclaw pmlaw cdlaw ctlaw : Value}
    {C CB : Addr}
    {finit : Addr} {odinit aninit : Option Addr} {slinit : Array (Option Value)} {ocinit kVinit dcinit pminit cdinit ctinit : Value}
    {pstop : Addr} {reststop : List Value}
    {fststop : Addr} {odststop anststop : Option Addr} {slststop : Array (Option Value)} {ocststop kVststop dcststop pmststop cdststop ctststop : Value}
    {pnew : Addr} {restnew : List Value}
    {fstnew : Addr} {odstnew anstnew : Option Addr} {slstnew : Array (Option Value)} {ocstnew kVstnew dcstnew pmstnew cdstnew ctstnew : Value}
    {pwhen : Addr} {restwhen : List Value}
    {fstwhen : Addr} {odstwhen anstwhen : Option Addr} {slstwhen : Array (Option Value)} {ocstwhen kVstwhen dcstwhen pmstwhen cdstwhen ctstwhen : Value}
    {pcall : Addr} {restcall : List Value}
    {fstcall : Addr} {odstcall anstcall : Option Addr} {slstcall : Array (Option Value)} {ocstcall kVstcall dcstcall pmstcall cdstcall ctstcall : Value}
    {poffer : Addr} {restoffer : List Value}
    {fstoffer : Addr} {odstoffer anstoffer : Option Addr} {slstoffer : Array (Option Value)} {ocstoffer kVstoffer dcstoffer pmstoffer cdstoffer ctstoffer : Value}
    {fadd : Addr} {odadd anadd : Option Addr} {sladd : Array (Option Value)} {ocadd kVadd dcadd pmadd cdadd ctadd : Value}
    {nmB qB : Str} {NB cS fB cda cc : Addr} {bsB : List Value} {snB : List Str} {subB : List Value} {abB : Bool} {colB : Option Bool} {ddB : Option Addr} {m0 m1 m2 m3 m5 : Option Value} {ocB kVB dcB pmB ctB ccl clB : Value} {odB anB cdd cld : Option Addr} {slB ccs csl : Array (Option Value)} {vsB : Array Value} {fileB : Str} {tfB : Tok} {zM : Str} {b1 b2 q0 r0 r1 r2 r3 r4 r5 r6 r7 r8 : Pos}
    {zL : Str} {tL : Tok}
    {zD : Str} {tD : Tok}
    {iN : Int} {tN : Tok}
    {iT : Int} {tT : Tok}
    {iM : Int} {tM : Tok}
    {iDe : Int} {tDe : Tok}
    {iSi : Int} {tSi : Tok}
    {iOp : Int} {tOp : Tok}
    {iOf : Int} {tOf : Tok}
    {aR : Addr} {odR : Option Addr} {slR : Array (Option Value)} {itsR : Array Value} {nR : Nat}
    (aisname : PySem.W.nsIn K mainGlobals "is_name" = some (some (.ref fisname)))
    (lisname : K.lookup fisname = some ⟨ocisname, odisname, .func (PySem.W.fnOf "is_name" "is_name" (defArgs (topS 7)) (defBody (topS 7)) (defScope (topS 7)) .none kVisname dcisname pmisname anisname cdisname ctisname), slisname⟩)
    (cisname : PySem.W.codeIn K cdisname "is_name" = true)
    (kisname : PySem.W.keepIn K (.ref fisname) = true)
    (aarenames : PySem.W.nsIn K mainGlobals "are_names" = some (some (.ref farenames)))
    (larenames : K.lookup farenames = some ⟨ocarenames, odarenames, .func (PySem.W.fnOf "are_names" "are_names" (defArgs (topS 8)) (defBody (topS 8)) (defScope (topS 8)) .none kVarenames dcarenames pmarenames anarenames cdarenames ctarenames), slarenames⟩)
    (carenames : PySem.W.codeIn K cdarenames "are_names" = true)
    (karenames : PySem.W.keepIn K (.ref farenames) = true)
    (aisint : PySem.W.nsIn K mainGlobals "is_int" = some (some (.ref fisint)))
    (lisint : K.lookup fisint = some ⟨ocisint, odisint, .func (PySem.W.fnOf "is_int" "is_int" (defArgs (topS 9)) (defBody (topS 9)) (defScope (topS 9)) .none kVisint dcisint pmisint anisint cdisint ctisint), slisint⟩)
    (cisint : PySem.W.codeIn K cdisint "is_int" = true)
    (kisint : PySem.W.keepIn K (.ref fisint) = true)
    (aisshort : PySem.W.nsIn K mainGlobals "is_short" = some (some (.ref fisshort)))
    (lisshort : K.lookup fisshort = some ⟨ocisshort, odisshort, .func (PySem.W.fnOf "is_short" "is_short" (defArgs (topS 10)) (defBody (topS 10)) (defScope (topS 10)) .none kVisshort dcisshort pmisshort anisshort cdisshort ctisshort), slisshort⟩)
    (cisshort : PySem.W.codeIn K cdisshort "is_short" = true)
    (kisshort : PySem.W.keepIn K (.ref fisshort) = true)
    (aisop : PySem.W.nsIn K mainGlobals "is_operand" = some (some (.ref fisop)))
    (lisop : K.lookup fisop = some ⟨ocisop, odisop, .func (PySem.W.fnOf "is_operand" "is_operand" (defArgs (topS 11)) (defBody (topS 11)) (defScope (topS 11)) .none kVisop dcisop pmisop anisop cdisop ctisop), slisop⟩)
    (cisop : PySem.W.codeIn K cdisop "is_operand" = true)
    (kisop : PySem.W.keepIn K (.ref fisop) = true)
    (aisseats : PySem.W.nsIn K mainGlobals "is_seats" = some (some (.ref fisseats)))
    (lisseats : K.lookup fisseats = some ⟨ocisseats, odisseats, .func (PySem.W.fnOf "is_seats" "is_seats" (defArgs (topS 12)) (defBody (topS 12)) (defScope (topS 12)) .none kVisseats dcisseats pmisseats anisseats cdisseats ctisseats), slisseats⟩)
    (cisseats : PySem.W.codeIn K cdisseats "is_seats" = true)
    (kisseats : PySem.W.keepIn K (.ref fisseats) = true)
    (ademand : PySem.W.nsIn K mainGlobals "demand" = some (some (.ref fdemand)))
    (ldemand : K.lookup fdemand = some ⟨ocdemand, oddemand, .func (PySem.W.fnOf "demand" "demand" (defArgs (topS 22)) (defBody (topS 22)) (defScope (topS 22)) .none kVdemand dcdemand pmdemand andemand cddemand ctdemand), sldemand⟩)
    (cdemand : PySem.W.codeIn K cddemand "demand" = true)
    (kdemand : PySem.W.keepIn K (.ref fdemand) = true)
    (ainner : PySem.W.nsIn K mainGlobals "inner_processes" = some (some (.ref finner)))
    (linner : K.lookup finner = some ⟨ocinner, odinner, .func (PySem.W.fnOf "inner_processes" "inner_processes" (defArgs (topS 23)) (defBody (topS 23)) (defScope (topS 23)) .none kVinner dcinner pminner aninner cdinner ctinner), slinner⟩)
    (cinner : PySem.W.codeIn K cdinner "inner_processes" = true)
    (kinner : PySem.W.keepIn K (.ref finner) = true)
    (asize : PySem.W.nsIn K mainGlobals "size_of" = some (some (.ref fsize)))
    (lsize : K.lookup fsize = some ⟨ocsize, odsize, .func (PySem.W.fnOf "size_of" "size_of" (defArgs (topS 24)) (defBody (topS 24)) (defScope (topS 24)) .none kVsize dcsize pmsize ansize cdsize ctsize), slsize⟩)
    (csize : PySem.W.codeIn K cdsize "size_of" = true)
    (ksize : PySem.W.keepIn K (.ref fsize) = true)
    (adepth : PySem.W.nsIn K mainGlobals "depth_of" = some (some (.ref fdepth)))
    (ldepth : K.lookup fdepth = some ⟨ocdepth, oddepth, .func (PySem.W.fnOf "depth_of" "depth_of" (defArgs (topS 25)) (defBody (topS 25)) (defScope (topS 25)) .none kVdepth dcdepth pmdepth andepth cddepth ctdepth), sldepth⟩)
    (cdepth : PySem.W.codeIn K cddepth "depth_of" = true)
    (kdepth : PySem.W.keepIn K (.ref fdepth) = true)
    (aischoice : PySem.W.nsIn K mainGlobals "is_choice" = some (some (.ref fischoice)))
    (lischoice : K.lookup fischoice = some ⟨ocischoice, odischoice, .func (PySem.W.fnOf "is_choice" "is_choice" (defArgs (topS 28)) (defBody (topS 28)) (defScope (topS 28)) .none kVischoice dcischoice pmischoice anischoice cdischoice ctischoice), slischoice⟩)
    (cischoice : PySem.W.codeIn K cdischoice "is_choice" = true)
    (kischoice : PySem.W.keepIn K (.ref fischoice) = true)
    (acellat : PySem.W.nsIn K mainGlobals "_law_cell_at" = some (some (.ref fcellat)))
    (lcellat : K.lookup fcellat = some ⟨occellat, odcellat, .func (PySem.W.fnOf "_law_cell_at" "_law_cell_at" (defArgs (topS 32)) (defBody (topS 32)) (defScope (topS 32)) .none kVcellat dccellat pmcellat ancellat cdcellat ctcellat), slcellat⟩)
    (ccellat : PySem.W.codeIn K cdcellat "_law_cell_at" = true)
    (kcellat : PySem.W.keepIn K (.ref fcellat) = true)
    (amixed : PySem.W.nsIn K mainGlobals "_law_mixed" = some (some (.ref fmixed)))
    (lmixed : K.lookup fmixed = some ⟨ocmixed, odmixed, .func (PySem.W.fnOf "_law_mixed" "_law_mixed" (defArgs (topS 33)) (defBody (topS 33)) (defScope (topS 33)) .none kVmixed dcmixed pmmixed anmixed cdmixed ctmixed), slmixed⟩)
    (cmixed : PySem.W.codeIn K cdmixed "_law_mixed" = true)
    (kmixed : PySem.W.keepIn K (.ref fmixed) = true)
    (arow : PySem.W.nsIn K mainGlobals "_law_row" = some (some (.ref frow)))
    (lrow : K.lookup frow = some ⟨ocrow, odrow, .func (PySem.W.fnOf "_law_row" "_law_row" (defArgs (topS 34)) (defBody (topS 34)) (defScope (topS 34)) .none kVrow dcrow pmrow anrow cdrow ctrow), slrow⟩)
    (crow : PySem.W.codeIn K cdrow "_law_row" = true)
    (krow : PySem.W.keepIn K (.ref frow) = true)
    (abases : PySem.W.nsIn K mainGlobals "_law_bases" = some (some (.ref fbases)))
    (lbases : K.lookup fbases = some ⟨ocbases, odbases, .func (PySem.W.fnOf "_law_bases" "_law_bases" (defArgs (topS 35)) (defBody (topS 35)) (defScope (topS 35)) .none kVbases dcbases pmbases anbases cdbases ctbases), slbases⟩)
    (cbases : PySem.W.codeIn K cdbases "_law_bases" = true)
    (kbases : PySem.W.keepIn K (.ref fbases) = true)
    (apick : PySem.W.nsIn K mainGlobals "_law_pick" = some (some (.ref fpick)))
    (lpick : K.lookup fpick = some ⟨ocpick, odpick, .func (PySem.W.fnOf "_law_pick" "_law_pick" (defArgs (topS 36)) (defBody (topS 36)) (defScope (topS 36)) .none kVpick dcpick pmpick anpick cdpick ctpick), slpick⟩)
    (cpick : PySem.W.codeIn K cdpick "_law_pick" = true)
    (kpick : PySem.W.keepIn K (.ref fpick) = true)
    (adue : PySem.W.nsIn K mainGlobals "_law_due" = some (some (.ref fdue)))
    (ldue : K.lookup fdue = some ⟨ocdue, oddue, .func (PySem.W.fnOf "_law_due" "_law_due" (defArgs (topS 37)) (defBody (topS 37)) (defScope (topS 37)) .none kVdue dcdue pmdue andue cddue ctdue), sldue⟩)
    (cdue : PySem.W.codeIn K cddue "_law_due" = true)
    (kdue : PySem.W.keepIn K (.ref fdue) = true)
    (adone : PySem.W.nsIn K mainGlobals "_law_done" = some (some (.ref fdone)))
    (ldone : K.lookup fdone = some ⟨ocdone, oddone, .func (PySem.W.fnOf "_law_done" "_law_done" (defArgs (topS 38)) (defBody (topS 38)) (defScope (topS 38)) .none kVdone dcdone pmdone andone cddone ctdone), sldone⟩)
    (cdone : PySem.W.codeIn K cddone "_law_done" = true)
    (kdone : PySem.W.keepIn K (.ref fdone) = true)
    (atail : PySem.W.nsIn K mainGlobals "_law_tail" = some (some (.ref ftail)))
    (ltail : K.lookup ftail = some ⟨octail, odtail, .func (PySem.W.fnOf "_law_tail" "_law_tail" (defArgs (topS 39)) (defBody (topS 39)) (defScope (topS 39)) .none kVtail dctail pmtail antail cdtail cttail), sltail⟩)
    (ctail : PySem.W.codeIn K cdtail "_law_tail" = true)
    (ktail : PySem.W.keepIn K (.ref ftail) = true)
    (alaw : PySem.W.nsIn K mainGlobals "law" = some (some (.ref flaw)))
    (llaw : K.lookup flaw = some ⟨oclaw, odlaw, .func (PySem.W.fnOf "law" "law" (defArgs (topS 40)) (defBody (topS 40)) (defScope (topS 40)) .none kVlaw dclaw pmlaw anlaw cdlaw ctlaw), sllaw⟩)
    (claw : PySem.W.codeIn K cdlaw "law" = true)
    (klaw : PySem.W.keepIn K (.ref flaw) = true)
    (aC : PySem.W.nsIn K mainGlobals "Process" = some (some (.ref C)))
    (pg : PySem.W.plainGet K C Str.empty = true)
    (hd : PySem.W.hasDictIn K C = true)
    (po : PySem.W.plainOver K C = true)
    (sa : PySem.W.findIn K (.ref C) "__setattr__" = some (some (.builtin "object.__setattr__")))
    (n_kind : PySem.W.findIn K (.ref C) "kind" = some none)
    (n_parts : PySem.W.findIn K (.ref C) "parts" = some none)
    (n_depth : PySem.W.findIn K (.ref C) "depth" = some none)
    (n_size : PySem.W.findIn K (.ref C) "size" = some none)
    (mk : PySem.W.makesIn K C = true)
    (kc : PySem.W.keepIn K (.ref C) = true)
    (aInit : PySem.W.findIn K (.ref C) "__init__" = some (some (.ref finit)))
    (iInit : PySem.W.isFn K (.ref finit) = true)
    (linit : K.lookup finit = some ⟨ocinit, odinit, .func (PySem.W.fnOf "__init__" "Process.__init__" (defArgs (inClass (topS 26) 0)) (defBody (inClass (topS 26) 0)) (defScope (inClass (topS 26) 0)) .none kVinit dcinit pminit aninit cdinit ctinit), slinit⟩)
    (cinit : PySem.W.codeIn K cdinit "Process.__init__" = true)
    (kinit : PySem.W.keepIn K (.ref finit) = true)
    (rdC : PySem.W.readsIn K C (.type "type") = true)
    (gaC : PySem.W.specialIn K (.ref C) "__getattribute__" = some (some (.builtin "type.__getattribute__")))
    (sstop : PySem.W.findCls K (.ref C) (.type "type") "stop" = some (.get (.builtin "staticmethod.__get__") (.ref pstop) .none (.ref C)))
    (rstop : PySem.W.recIn K pstop "staticmethod" = some (.ref fststop :: reststop))
    (lststop : K.lookup fststop = some ⟨ocststop, odststop, .func (PySem.W.fnOf "stop" "Process.stop" (defArgs (inClass (topS 26) 1)) (defBody (inClass (topS 26) 1)) (defScope (inClass (topS 26) 1)) .none kVststop dcststop pmststop anststop cdststop ctststop), slststop⟩)
    (cststop : PySem.W.codeIn K cdststop "Process.stop" = true)
    (kststop : PySem.W.keepIn K (.ref fststop) = true)
    (snew : PySem.W.findCls K (.ref C) (.type "type") "new" = some (.get (.builtin "staticmethod.__get__") (.ref pnew) .none (.ref C)))
    (rnew : PySem.W.recIn K pnew "staticmethod" = some (.ref fstnew :: restnew))
    (lstnew : K.lookup fstnew = some ⟨ocstnew, odstnew, .func (PySem.W.fnOf "new" "Process.new" (defArgs (inClass (topS 26) 3)) (defBody (inClass (topS 26) 3)) (defScope (inClass (topS 26) 3)) .none kVstnew dcstnew pmstnew anstnew cdstnew ctstnew), slstnew⟩)
    (cstnew : PySem.W.codeIn K cdstnew "Process.new" = true)
    (kstnew : PySem.W.keepIn K (.ref fstnew) = true)
    (swhen : PySem.W.findCls K (.ref C) (.type "type") "when" = some (.get (.builtin "staticmethod.__get__") (.ref pwhen) .none (.ref C)))
    (rwhen : PySem.W.recIn K pwhen "staticmethod" = some (.ref fstwhen :: restwhen))
    (lstwhen : K.lookup fstwhen = some ⟨ocstwhen, odstwhen, .func (PySem.W.fnOf "when" "Process.when" (defArgs (inClass (topS 26) 4)) (defBody (inClass (topS 26) 4)) (defScope (inClass (topS 26) 4)) .none kVstwhen dcstwhen pmstwhen anstwhen cdstwhen ctstwhen), slstwhen⟩)
    (cstwhen : PySem.W.codeIn K cdstwhen "Process.when" = true)
    (kstwhen : PySem.W.keepIn K (.ref fstwhen) = true)
    (scall : PySem.W.findCls K (.ref C) (.type "type") "call" = some (.get (.builtin "staticmethod.__get__") (.ref pcall) .none (.ref C)))
    (rcall : PySem.W.recIn K pcall "staticmethod" = some (.ref fstcall :: restcall))
    (lstcall : K.lookup fstcall = some ⟨ocstcall, odstcall, .func (PySem.W.fnOf "call" "Process.call" (defArgs (inClass (topS 26) 5)) (defBody (inClass (topS 26) 5)) (defScope (inClass (topS 26) 5)) .none kVstcall dcstcall pmstcall anstcall cdstcall ctstcall), slstcall⟩)
    (cstcall : PySem.W.codeIn K cdstcall "Process.call" = true)
    (kstcall : PySem.W.keepIn K (.ref fstcall) = true)
    (soffer : PySem.W.findCls K (.ref C) (.type "type") "offer" = some (.get (.builtin "staticmethod.__get__") (.ref poffer) .none (.ref C)))
    (roffer : PySem.W.recIn K poffer "staticmethod" = some (.ref fstoffer :: restoffer))
    (lstoffer : K.lookup fstoffer = some ⟨ocstoffer, odstoffer, .func (PySem.W.fnOf "offer" "Process.offer" (defArgs (inClass (topS 26) 2)) (defBody (inClass (topS 26) 2)) (defScope (inClass (topS 26) 2)) .none kVstoffer dcstoffer pmstoffer anstoffer cdstoffer ctstoffer), slstoffer⟩)
    (cstoffer : PySem.W.codeIn K cdstoffer "Process.offer" = true)
    (kstoffer : PySem.W.keepIn K (.ref fstoffer) = true)
    (opF : PySem.W.selfFirst K C = true)
    (opA : PySem.W.findIn K (.ref C) "__add__" = some (some (.ref fadd)))
    (opI : PySem.W.isFn K (.ref fadd) = true)
    (ladd : K.lookup fadd = some ⟨ocadd, odadd, .func (PySem.W.fnOf "__add__" "Process.__add__" (defArgs (inClass (topS 26) 7)) (defBody (inClass (topS 26) 7)) (defScope (inClass (topS 26) 7)) .none kVadd dcadd pmadd anadd cdadd ctadd), sladd⟩)
    (cadd : PySem.W.codeIn K cdadd "Process.__add__" = true)
    (kadd : PySem.W.keepIn K (.ref fadd) = true)
    (icC : PySem.W.isClsIn K C = true)
    (tyC : PySem.W.typeIn K (.ref C) = some (.type "type"))
    (no_str : PySem.W.subIn K (.type "str") (.ref C) = some false)
    (no_int : PySem.W.subIn K (.type "int") (.ref C) = some false)
    (no_tuple : PySem.W.subIn K (.type "tuple") (.ref C) = some false)
    (haC : PySem.W.findIn K (.ref C) "__class__" = some (some (.builtin "object.__class__")))
    (hnC : PySem.W.specialIn K (.builtin "object.__class__") "__get__" = some (some (.builtin "getset_descriptor.__get__")))
    (htC : PySem.W.takesIn K (.builtin "object.__class__") = some true)
    (hmC : PySem.W.mroIn K C (.type "object") = some true)
    (aB : PySem.W.nsIn K mainGlobals "BadTerm" = some (some (.ref CB)))
    (xB : K.lookup CB = some (excClassObj nmB qB CB NB bsB [.ref cS, .type "ValueError", .type "Exception", .type "BaseException", .type "object"] true snB subB abB colB ddB m0 m1 m2 m3 m5 "ValueError.__new__"))
    (eiB : PySem.W.excInitIn K CB [.type "ValueError", .type "Exception", .type "BaseException", .type "object"] "ValueError.__new__" = true)
    (saB : PySem.W.findIn K (.ref CB) "__setattr__" = some (some (.builtin "object.__setattr__")))
    (noB : PySem.W.findIn K (.ref CB) "field" = some none)
    (iB : PySem.W.findIn K (.ref CB) "__init__" = some (some (.ref fB)))
    (tB : PySem.W.typeIn K (.ref fB) = some (.type "function"))
    (kB : PySem.W.keepIn K (.ref CB) = true)
    (exB : PySem.W.subIn K (.ref CB) (.type "BaseException") = some true)
    (veB : PySem.W.subIn K (.ref CB) (.type "ValueError") = some true)
    (tyB : PySem.W.typeIn K (.ref CB) = some (.type "type"))
    (mroB : PySem.W.mroIn K CB (.ref CB) = some true)
    (spB : PySem.W.ks_superIn K CB CB "__init__" = some (some (.builtin "ValueError.__init__")))
    (opq : PySem.W.nsIn K cStatics "thirdparty.any" = some none)
    (lB : K.lookup fB = some ⟨ocB, odB, .func (PySem.W.ksFn "__init__" "BadTerm.__init__" (FsB.eA b1 b2) (FsB.eB (FsB.eM zM q0) r0 r1 r2 r3 r4 r5 r6 r7 r8) FsB.eS .none kVB dcB pmB anB (.ref cda) ctB cc), slB⟩)
    (cB : PySem.W.codeIn K (.ref cda) "BadTerm.__init__" = true)
    (oB : K.lookup cda = some ⟨ccl, cdd, .fields vsB, ccs⟩)
    (vB : vsB[2]? = some (.str fileB tfB))
    (fB1 : ((P.main.file : Str) == fileB) = true)
    (ceB : K.lookup cc = some ⟨clB, cld, .cell (some (.ref CB)), csl⟩)
    (lnB : (r2.endLine == r3.line) = true)
    (zMB : zM.length ≤ 1000)
    (topB : (P.main.scope.names.lookup ("super" : Str)).isSome = false)
    (gaB : PySem.W.findIn K (.ref CB) "__getattribute__" = some (some (.builtin "BaseException.__getattribute__")))
    (ggB : PySem.W.findIn K (.ref CB) "__getattr__" = some none)
    (hdB : PySem.W.hasDictIn K CB = true)
    (icB : PySem.W.isClsIn K CB = true)
    (sbB : PySem.W.subIn K (.ref CB) (.ref CB) = some true)
    (gL : PySem.W.nsIn K mainGlobals "LETTERS" = some (some (.str zL tL)))
    (hL : zL = lettersS)
    (gD : PySem.W.nsIn K mainGlobals "DIGITS" = some (some (.str zD tD)))
    (hD : zD = digitsS)
    (gN : PySem.W.nsIn K mainGlobals "NAME_LENGTH" = some (some (.int iN tN)))
    (hN : iN = 8)
    (gT : PySem.W.nsIn K mainGlobals "TOO_LONG" = some (some (.int iT tT)))
    (hT : iT = 10 ^ 30)
    (gM : PySem.W.nsIn K mainGlobals "MOST_SEATS" = some (some (.int iM tM)))
    (hM : iM = 4)
    (gDe : PySem.W.nsIn K mainGlobals "MOST_DEPTH" = some (some (.int iDe tDe)))
    (hDe : iDe = 20)
    (gSi : PySem.W.nsIn K mainGlobals "MOST_SIZE" = some (some (.int iSi tSi)))
    (hSi : iSi = 400)
    (gOp : PySem.W.nsIn K mainGlobals "MOST_OPERANDS" = some (some (.int iOp tOp)))
    (hOp : iOp = 4)
    (gOf : PySem.W.nsIn K mainGlobals "MOST_OFFERS" = some (some (.int iOf tOf)))
    (hOf : iOf = 6)
    (gR : PySem.W.nsIn K mainGlobals "RESERVED" = some (some (.ref aR)))
    (lR : K.lookup aR = some ⟨.type "tuple", odR, .seq itsR nR, slR⟩)
    (sR : itsR.size ≤ 1000)
    (hR : Vals reservedV itsR.toList)
    (z_isinstance : PySem.W.nsIn K mainGlobals "isinstance" = some (none))
    (z_str : PySem.W.nsIn K mainGlobals "str" = some (none))
    (z_int : PySem.W.nsIn K mainGlobals "int" = some (none))
    (z_bool : PySem.W.nsIn K mainGlobals "bool" = some (none))
    (z_len : PySem.W.nsIn K mainGlobals "len" = some (none))
    (z_all : PySem.W.nsIn K mainGlobals "all" = some (none))
    (z_sum : PySem.W.nsIn K mainGlobals "sum" = some (none))
    (z_max : PySem.W.nsIn K mainGlobals "max" = some (none))
    (z_tuple : PySem.W.nsIn K mainGlobals "tuple" = some (none))
    (z_abs : PySem.W.nsIn K mainGlobals "abs" = some (none))
    (z_range : PySem.W.nsIn K mainGlobals "range" = some (none))
    (z_super : PySem.W.nsIn K mainGlobals "super" = some (none))
    (z_set : PySem.W.nsIn K mainGlobals "set" = some (none))
    (z_min : PySem.W.nsIn K mainGlobals "min" = some (none)) :
    ∃ fd : FuncData, (∀ (s : Shared) (v : Value), BindsTo s fd ⟨[v], []⟩ [("_law_script", v)]) ∧ ∀ base : Heap, K.In base → base.Ns mainGlobals mg → FnOk P w K mg base CX0 8 fa fd ["_law_script"] (spLaw K) := by
  have e := hfa.symm.trans (PySem.W.mg_of X G alaw)
  cases e
  subst hL hD hN hT hM hDe hSi hOp hOf
  have B : BasT K mg := { letters := ⟨_, PySem.W.mg_of X G gL, _, rfl⟩, digits := ⟨_, PySem.W.mg_of X G gD, _, rfl⟩, nlen := ⟨_, PySem.W.mg_of X G gN, _, rfl⟩, reserved := ⟨aR, PySem.W.mg_of X G gR, fun H => .inr ⟨_, _, _, lR, rfl, rfl, by rw [sizeLine_eq]; omega, hR⟩⟩, toolong := ⟨_, PySem.W.mg_of X G gT, _, rfl⟩, seats := ⟨_, PySem.W.mg_of X G gM, _, rfl⟩, isinst := PySem.W.mg_none_of X G z_isinstance, str := PySem.W.mg_none_of X G z_str, int := PySem.W.mg_none_of X G z_int, bool := PySem.W.mg_none_of X G z_bool, len := PySem.W.mg_none_of X G z_len, all := PySem.W.mg_none_of X G z_all }
  have T : TerT K mg C CB := { cl := ⟨pg, hd, po, sa⟩, nK := n_kind, nP := n_parts, nD := n_depth, nS := n_size, mgC := PySem.W.mg_of X G aC, kStr := kit_no icC tyC no_str, kInt := kit_no icC tyC no_int, kTup := kit_no icC tyC no_tuple, ha := haC, hn := hnC, htk := htC, hm := hmC, sum := PySem.W.mg_none_of X G z_sum, max := PySem.W.mg_none_of X G z_max, tuple := PySem.W.mg_none_of X G z_tuple, depth := ⟨_, PySem.W.mg_of X G gDe, _, rfl⟩, size := ⟨_, PySem.W.mg_of X G gSi, _, rfl⟩ }
  have L : LawT K mg := { len := PySem.W.mg_none_of X G z_len, int := PySem.W.mg_none_of X G z_int, abs := PySem.W.mg_none_of X G z_abs, range := PySem.W.mg_none_of X G z_range }
  have ER : ErrT K mg CB := { gB := PySem.W.mg_of X G aB, xf := ⟨gaB, ggB, exB, hdB⟩, no := noB, te := exm_own exB icB tyB sbB }
  have TB : ErrTxt P K mg "BadTerm" CB fB := { gC := PySem.W.mg_of X G aB, cls := ⟨nmB, qB, NB, bsB, _, snB, subB, abB, colB, ddB, m0, m1, m2, m3, m5, xB, rfl⟩, ei := eiB, sa := saB, noN := noB, iC := iB, tC := tB, kC := kB, exC := exB, veC := veB, tyC := tyB, slf := mroB, sup := spB, opq := opq, gs := PySem.W.mg_none_of X G z_super, top := topB, fn := ⟨ocB, odB, anB, kVB, dcB, pmB, ctB, slB, _, cda, cc, ccl, clB, cdd, cld, ccs, csl, vsB, fileB, tfB, zM, b1, b2, q0, r0, r1, r2, r3, r4, r5, r6, r7, r8, lB, cB, oB, vB, fB1, ceB, zMB, lnB⟩ }
  have Fisname := fun_mk (st := (topS 7)) lisname cisname kisname
  have Bisname := Fisname.binds (ps := ["text"]) fun _ _ _ _ _ _ us hl => match us, hl with | [_], _ => rfl
  have Farenames := fun_mk (st := (topS 8)) larenames carenames karenames
  have Barenames := Farenames.binds (ps := ["texts"]) fun _ _ _ _ _ _ us hl => match us, hl with | [_], _ => rfl
  have Fisint := fun_mk (st := (topS 9)) lisint cisint kisint
  have Bisint := Fisint.binds (ps := ["value"]) fun _ _ _ _ _ _ us hl => match us, hl with | [_], _ => rfl
  have Fisshort := fun_mk (st := (topS 10)) lisshort cisshort kisshort
  have Bisshort := Fisshort.binds (ps := ["value"]) fun _ _ _ _ _ _ us hl => match us, hl with | [_], _ => rfl
  have Fisop := fun_mk (st := (topS 11)) lisop cisop kisop
  have Bisop := Fisop.binds (ps := ["part"]) fun _ _ _ _ _ _ us hl => match us, hl with | [_], _ => rfl
  have Fisseats := fun_mk (st := (topS 12)) lisseats cisseats kisseats
  have Bisseats := Fisseats.binds (ps := ["count"]) fun _ _ _ _ _ _ us hl => match us, hl with | [_], _ => rfl
  have Fdemand := fun_mk (st := (topS 22)) ldemand cdemand kdemand
  have Bdemand := Fdemand.binds (ps := ["allowed", "field"]) fun _ _ _ _ _ _ us hl => match us, hl with | [_, _], _ => rfl
  have Finner := fun_mk (st := (topS 23)) linner cinner kinner
  have Binner := Finner.binds (ps := ["kind", "parts"]) fun _ _ _ _ _ _ us hl => match us, hl with | [_, _], _ => rfl
  have Fsize := fun_mk (st := (topS 24)) lsize csize ksize
  have Bsize := Fsize.binds (ps := ["kind", "parts"]) fun _ _ _ _ _ _ us hl => match us, hl with | [_, _], _ => rfl
  have Fdepth := fun_mk (st := (topS 25)) ldepth cdepth kdepth
  have Bdepth := Fdepth.binds (ps := ["kind", "parts"]) fun _ _ _ _ _ _ us hl => match us, hl with | [_, _], _ => rfl
  have Fischoice := fun_mk (st := (topS 28)) lischoice cischoice kischoice
  have Bischoice := Fischoice.binds (ps := ["term"]) fun _ _ _ _ _ _ us hl => match us, hl with | [_], _ => rfl
  have Fcellat := fun_mk (st := (topS 32)) lcellat ccellat kcellat
  have Bcellat := Fcellat.binds (ps := ["_law_script", "_law_k"]) fun _ _ _ _ _ _ us hl => match us, hl with | [_, _], _ => rfl
  have Fmixed := fun_mk (st := (topS 33)) lmixed cmixed kmixed
  have Bmixed := Fmixed.binds (ps := ["_law_cell", "_law_k"]) fun _ _ _ _ _ _ us hl => match us, hl with | [_, _], _ => rfl
  have Frow := fun_mk (st := (topS 34)) lrow crow krow
  have Brow := Frow.binds (ps := ["_law_cell", "_law_many"]) fun _ _ _ _ _ _ us hl => match us, hl with | [_, _], _ => rfl
  have Fbases := fun_mk (st := (topS 35)) lbases cbases kbases
  have Bbases := Fbases.binds (ps := []) fun _ _ _ _ _ _ us hl => match us, hl with | [], _ => rfl
  have Fpick := fun_mk (st := (topS 36)) lpick cpick kpick
  have Bpick := Fpick.binds (ps := ["_law_draw", "_law_many"]) fun _ _ _ _ _ _ us hl => match us, hl with | [_, _], _ => rfl
  have Fdue := fun_mk (st := (topS 37)) ldue cdue kdue
  have Bdue := Fdue.binds (ps := ["_law_way", "_law_first", "_law_second"]) fun _ _ _ _ _ _ us hl => match us, hl with | [_, _, _], _ => rfl
  have Fdone := fun_mk (st := (topS 38)) ldone cdone kdone
  have Bdone := Fdone.binds (ps := ["_law_way", "_law_one", "_law_two"]) fun _ _ _ _ _ _ us hl => match us, hl with | [_, _, _], _ => rfl
  have Ftail := fun_mk (st := (topS 39)) ltail ctail ktail
  have Btail := Ftail.binds (ps := ["_law_known"]) fun _ _ _ _ _ _ us hl => match us, hl with | [_], _ => rfl
  have Flaw := fun_mk (st := (topS 40)) llaw claw klaw
  have Blaw := Flaw.binds (ps := ["_law_script"]) fun _ _ _ _ _ _ us hl => match us, hl with | [_], _ => rfl
  have Finit := fun_mk (st := (inClass (topS 26) 0)) linit cinit kinit
  have Binit := Finit.binds (ps := ["self", "kind", "parts"]) fun _ _ _ _ _ _ us hl => match us, hl with | [_, _, _], _ => rfl
  have Fststop := fun_mk (st := (inClass (topS 26) 1)) lststop cststop kststop
  have Bststop := Fststop.binds (ps := []) fun _ _ _ _ _ _ us hl => match us, hl with | [], _ => rfl
  have Fstnew := fun_mk (st := (inClass (topS 26) 3)) lstnew cstnew kstnew
  have Bstnew := Fstnew.binds (ps := ["name", "seats", "rest"]) fun _ _ _ _ _ _ us hl => match us, hl with | [_, _, _], _ => rfl
  have Fstwhen := fun_mk (st := (inClass (topS 26) 4)) lstwhen cstwhen kstwhen
  have Bstwhen := Fstwhen.binds (ps := ["left", "right", "yes", "no"]) fun _ _ _ _ _ _ us hl => match us, hl with | [_, _, _, _], _ => rfl
  have Fstcall := fun_mk (st := (inClass (topS 26) 5)) lstcall cstcall kstcall
  have Bstcall := Fstcall.binds (ps := ["name", "operands"]) fun _ _ _ _ _ _ us hl => match us, hl with | [_, _], _ => rfl
  have Fstoffer := fun_mk (st := (inClass (topS 26) 2)) lstoffer cstoffer kstoffer
  have Bstoffer := Fstoffer.binds (ps := ["channel", "seat", "seats", "operand", "names", "rest"]) fun _ _ _ _ _ _ us hl => match us, hl with | [_, _, _, _, _, _], _ => rfl
  refine ⟨PySem.W.fnOf "law" "law" (defArgs (topS 40)) (defBody (topS 40)) (defScope (topS 40)) .none kVlaw dclaw pmlaw anlaw cdlaw ctlaw, fun s v => .of_eq rfl, fun base _ _ => ?_⟩
  have Gisname : CalX P w K mg base CX0 1 "is_name" (spPred nameV) := ⟨_, _, _, ok_is_name Fisname B, PySem.W.mg_of X G aisname, kisname, Bisname⟩
  have Gisint : CalX P w K mg base CX0 1 "is_int" (spPred intV) := ⟨_, _, _, ok_is_int Fisint B, PySem.W.mg_of X G aisint, kisint, Bisint⟩
  have Gisshort : CalX P w K mg base CX0 2 "is_short" (spPred shortV) := ⟨_, _, _, ok_is_short Fisshort B Gisint, PySem.W.mg_of X G aisshort, kisshort, Bisshort⟩
  have Gisop : CalX P w K mg base CX0 3 "is_operand" (spPred operandV) := ⟨_, _, _, ok_is_operand Fisop Gisshort Gisname, PySem.W.mg_of X G aisop, kisop, Bisop⟩
  have Gisseats : CalX P w K mg base CX0 2 "is_seats" (spPred seatsV) := ⟨_, _, _, ok_is_seats Fisseats B Gisint, PySem.W.mg_of X G aisseats, kisseats, Bisseats⟩
  have Ginner : CalX P w K mg base CX0 1 "inner_processes" (spInner C) := ⟨_, _, _, ok_inner Finner B T, PySem.W.mg_of X G ainner, kinner, Binner⟩
  have Gdepth : CalX P w K mg base CX0 2 "depth_of" (spSize C Pr.depth) := ⟨_, _, _, ok_depth Fdepth T Ginner, PySem.W.mg_of X G adepth, kdepth, Bdepth⟩
  have Gsize : CalX P w K mg base CX0 2 "size_of" (spSize C Pr.size) := ⟨_, _, _, ok_size Fsize B T Ginner, PySem.W.mg_of X G asize, ksize, Bsize⟩
  have OD : FnOk P w K mg base (L2.CX P w) 2 fdemand _ ["allowed", "field"] (spDemand CB) := ok_demand Fdemand (raises_bt (k := 1) (by decide) TB)
  have G2d : CalX P w K mg base (L2.CX P w) 2 "demand" (spDemand CB) := ⟨_, _, _, OD, PySem.W.mg_of X G ademand, kdemand, Bdemand⟩
  have G3d : CalX P w K mg base (L2.CX P w) 3 "demand" (spDemand CB) := ⟨_, _, _, OD.mono (by decide), PySem.W.mg_of X G ademand, kdemand, Bdemand⟩
  have GM : MakX P w K mg base (L2.CX P w) 3 "Process" C (spInit C CB) := ⟨_, _, _, ⟨mk, aInit, iInit, kc⟩, ok_init Finit T Gdepth Gsize G2d (Nat.le_refl _), PySem.W.mg_of X G aC, Binit⟩
  have Garenames : CalX P w K mg base CX0 2 "are_names" spNames := ⟨_, _, _, ok_are_names Farenames B (PySem.W.mg_none_of X G z_set) Gisname, PySem.W.mg_of X G aarenames, karenames, Barenames⟩
  have M : MakT P w K mg base C CB 3 := { make := GM, dem := G3d, name := Gisname, seats := Gisseats, operand := Gisop, int := Gisint, names := Garenames, mops := ⟨_, PySem.W.mg_of X G gOp, _, rfl⟩, tuple := PySem.W.mg_none_of X G z_tuple, len := PySem.W.mg_none_of X G z_len, all := PySem.W.mg_none_of X G z_all, hk := Nat.le_refl _ }
  have Sstop : StaX P w K mg base (L2.CX P w) 5 C "stop" (spStop C CB) := ⟨_, _, _, _, _, ⟨rdC, gaC⟩, ⟨sstop, ⟨_, rstop⟩, kststop⟩, ok_stop Fststop M, Bststop⟩
  have Snew : StaX P w K mg base (L2.CX P w) 5 C "new" (spNew C CB) := ⟨_, _, _, _, _, ⟨rdC, gaC⟩, ⟨snew, ⟨_, rnew⟩, kstnew⟩, ok_new Fstnew M, Bstnew⟩
  have Swhen : StaX P w K mg base (L2.CX P w) 5 C "when" (spWhen C CB) := ⟨_, _, _, _, _, ⟨rdC, gaC⟩, ⟨swhen, ⟨_, rwhen⟩, kstwhen⟩, ok_when Fstwhen M, Bstwhen⟩
  have Scall : StaX P w K mg base (L2.CX P w) 5 C "call" (spCall K C CB) := ⟨_, _, _, _, _, ⟨rdC, gaC⟩, ⟨scall, ⟨_, rcall⟩, kstcall⟩, ok_call Fstcall M, Bstcall⟩
  have Soffer : StaX P w K mg base (L2.CX P w) 5 C "offer" (spOffer C CB) := ⟨_, _, _, _, _, ⟨rdC, gaC⟩, ⟨soffer, ⟨_, roffer⟩, kstoffer⟩, ok_offer Fstoffer M, Bstoffer⟩
  have Gischoice : CalX P w K mg base CX0 1 "is_choice" (spChoice C) := ⟨_, _, _, ok_is_choice Fischoice B T, PySem.W.mg_of X G aischoice, kischoice, Bischoice⟩
  have Fadd := fun_mk (st := (inClass (topS 26) 7)) ladd cadd kadd
  have Badd := Fadd.binds (ps := ["self", "other"]) fun _ _ _ _ _ _ us hl => match us, hl with | [_, _], _ => rfl
  have edu : PySem.dunder Operator.Add.info.2 = "__add__" := by decide +kernel
  have OM : FsR.OpM K C .Add fadd := ⟨opF, by rw [edu]; exact opA, opI⟩
  have ST : StaT P w K mg base C CB 5 := ⟨PySem.W.mg_of X G aC, Sstop, Snew, Swhen, Scall, Soffer, ⟨_, _, _, OM, ok_add Fadd T M Gischoice ⟨_, PySem.W.mg_of X G gOf, _, rfl⟩, Badd⟩⟩
  have Gcellat : CalX P w K mg base CX0 1 "_law_cell_at" (spCellAt K) := ⟨_, _, _, ok_cell_at Fcellat L, PySem.W.mg_of X G acellat, kcellat, Bcellat⟩
  have Gmixed : CalX P w K mg base CX0 1 "_law_mixed" spMixed := ⟨_, _, _, ok_mixed Fmixed L, PySem.W.mg_of X G amixed, kmixed, Bmixed⟩
  have Grow : CalX P w K mg base CX0 2 "_law_row" spRow := ⟨_, _, _, ok_row Frow L Gmixed, PySem.W.mg_of X G arow, krow, Brow⟩
  have Gbases : CalX P w K mg base CX0 6 "_law_bases" (spBases C) := ⟨_, _, _, ok_bases Fbases L ST, PySem.W.mg_of X G abases, kbases, Bbases⟩
  have Gpick : CalX P w K mg base CX0 1 "_law_pick" spPick := ⟨_, _, _, ok_pick Fpick L (PySem.W.mg_none_of X G z_min), PySem.W.mg_of X G apick, kpick, Bpick⟩
  have Gdue : CalX P w K mg base CX0 1 "_law_due" spDue := ⟨_, _, _, ok_due Fdue L (PySem.W.mg_none_of X G z_max), PySem.W.mg_of X G adue, kdue, Bdue⟩
  have Gdone : CalX P w K mg base CX0 6 "_law_done" (spDone C) := ⟨_, _, _, ok_done Fdone T ST ER, PySem.W.mg_of X G adone, kdone, Bdone⟩
  have Gtail : CalX P w K mg base CX0 7 "_law_tail" (spTail C) := ⟨_, _, _, ok_tail Ftail Gdone, PySem.W.mg_of X G atail, ktail, Btail⟩
  exact ok_law (by decide) Flaw L Gcellat Grow Gpick Gdue Gbases Gdone Gtail
theorem walk {l : PySem.W.OpenLaw} {q : Program} {loose : List Str} {XP : (Str → Option Value) → Heap → Prop} {YP : World → Heap → Prop} {d : DefRec} {K : Params → PySem.W.Frag} (hn : l.most = some 63) (hdf : d.params.defaults = [])
    (hY : ∀ (w : World) (h : Heap), YP w h → (K w.params).In h)
    (hF : ∀ (w : World) (mg : Str → Option Value) (fa : Addr) (h : Heap), (K w.params).In h → h.Ns mainGlobals mg → mg d.name = some (.ref fa) →
      ∃ fd : FuncData, (∀ (s : Shared) (u : Value), BindsTo s fd ⟨[u], []⟩ [("_law_script", u)]) ∧ ∀ base : Heap, (K w.params).In base → base.Ns mainGlobals mg → FnOk l.prog w (K w.params) mg base CX0 8 fa fd ["_law_script"] (spLaw (K w.params))) :
    PySem.W.WalkO q loose XP YP l.row.toRowW d [] (fun f vs => PySem.call f vs) :=
  L2.walk_of (n := 63) (k := 8) (x := "_law_script") (CX := fun _ => CX0) (sp := fun w => spLaw (K w.params)) hn (by decide) hdf ⟨rfl, by decide, by decide⟩ hY hF (fun _ _ a ns _ _ hS => ⟨a, ns, rfl, hS, fun _ _ => rfl⟩) fun _ _ _ _ _ z => z
end Fs

open PySem PySem.W PyProof.Rows
set_option Elab.async false
set_option maxRecDepth 100000 in
set_option maxHeartbeats 0 in
theorem PySem.Challenge.cw_fullseats_k04_depth_and_size_holds : PySem.Challenge.rw_fullseats_k04_depth_and_size.Holds := by
  w_on; o_law; k_head; (case hw => w_witness2)
  k_fill
  refine Fs.walk (l := PySem.Challenge.rw_fullseats_k04_depth_and_size) rfl rfl (fun w h Y => PySem.W.kIn_of Y) ?F
  case F =>
    intro w mg fa h KX G hmg
    refine' Fs.all_mk KX G hmg ?aisname ?lisname ?cisname ?kisname ?aarenames ?larenames ?carenames ?karenames ?aisint ?lisint ?cisint ?kisint ?aisshort ?lisshort ?cisshort ?kisshort ?aisop ?lisop ?cisop ?kisop ?aisseats ?lisseats ?cisseats ?kisseats ?ademand ?ldemand ?cdemand ?kdemand ?ainner ?linner ?cinner ?kinner ?asize ?lsize ?csize ?ksize ?adepth ?ldepth ?cdepth ?kdepth ?aischoice ?lischoice ?cischoice ?kischoice ?acellat ?lcellat ?ccellat ?kcellat ?amixed ?lmixed ?cmixed ?kmixed ?arow ?lrow ?crow ?krow ?abases ?lbases ?cbases ?kbases ?apick ?lpick ?cpick ?kpick ?adue ?ldue ?cdue ?kdue ?adone ?ldone ?cdone ?kdone ?atail ?ltail ?ctail ?ktail ?alaw ?llaw ?claw ?klaw ?aC ?pg ?hd ?po ?sa ?n_kind ?n_parts ?n_depth ?n_size ?mk ?kc ?aInit ?iInit ?linit ?cinit ?kinit ?rdC ?gaC ?sstop ?rstop ?lststop ?cststop ?kststop ?snew ?rnew ?lstnew ?cstnew ?kstnew ?swhen ?rwhen ?lstwhen ?cstwhen ?kstwhen ?scall ?rcall ?lstcall ?cstcall ?kstcall ?soffer ?roffer ?lstoffer ?cstoffer ?kstoffer ?opF ?opA ?opI ?ladd ?cadd ?kadd ?icC ?tyC ?no_str ?no_int ?no_tuple ?haC ?hnC ?htC ?hmC ?aB ?xB ?eiB ?saB ?noB ?iB ?tB ?kB ?exB ?veB ?tyB ?mroB ?spB ?opq ?lB ?cB ?oB ?vB ?fB1 ?ceB ?lnB ?zMB ?topB ?gaB ?ggB ?hdB ?icB ?sbB ?gL ?hL ?gD ?hD ?gN ?hN ?gT ?hT ?gM ?hM ?gDe ?hDe ?gSi ?hSi ?gOp ?hOp ?gOf ?hOf ?gR ?lR ?sR ?hR ?z_isinstance ?z_str ?z_int ?z_bool ?z_len ?z_all ?z_sum ?z_max ?z_tuple ?z_abs ?z_range ?z_super ?z_set ?z_min
    (case aisname => k_is)
    (case lisname => k_is)
    (case cisname => k_is)
    (case kisname => k_is)
    (case aarenames => k_is)
    (case larenames => k_is)
    (case carenames => k_is)
    (case karenames => k_is)
    (case aisint => k_is)
    (case lisint => k_is)
    (case cisint => k_is)
    (case kisint => k_is)
    (case aisshort => k_is)
    (case lisshort => k_is)
    (case cisshort => k_is)
    (case kisshort => k_is)
    (case aisop => k_is)
    (case lisop => k_is)
    (case cisop => k_is)
    (case kisop => k_is)
    (case aisseats => k_is)
    (case lisseats => k_is)
    (case cisseats => k_is)
    (case kisseats => k_is)
    (case ademand => k_is)
    (case ldemand => k_is)
    (case cdemand => k_is)
    (case kdemand => k_is)
    (case ainner => k_is)
    (case linner => k_is)
    (case cinner => k_is)
    (case kinner => k_is)
    (case asize => k_is)
    (case lsize => k_is)
    (case csize => k_is)
    (case ksize => k_is)
    (case adepth => k_is)
    (case ldepth => k_is)
    (case cdepth => k_is)
    (case kdepth => k_is)
    (case aischoice => k_is)
    (case lischoice => k_is)
    (case cischoice => k_is)
    (case kischoice => k_is)
    (case acellat => k_is)
    (case lcellat => k_is)
    (case ccellat => k_is)
    (case kcellat => k_is)
    (case amixed => k_is)
    (case lmixed => k_is)
    (case cmixed => k_is)
    (case kmixed => k_is)
    (case arow => k_is)
    (case lrow => k_is)
    (case crow => k_is)
    (case krow => k_is)
    (case abases => k_is)
    (case lbases => k_is)
    (case cbases => k_is)
    (case kbases => k_is)
    (case apick => k_is)
    (case lpick => k_is)
    (case cpick => k_is)
    (case kpick => k_is)
    (case adue => k_is)
    (case ldue => k_is)
    (case cdue => k_is)
    (case kdue => k_is)
    (case adone => k_is)
    (case ldone => k_is)
    (case cdone => k_is)
    (case kdone => k_is)
    (case atail => k_is)
    (case ltail => k_is)
    (case ctail => k_is)
    (case ktail => k_is)
    (case alaw => k_is)
    (case llaw => k_is)
    (case claw => k_is)
    (case klaw => k_is)
    (case aC => k_is)
    (case pg => k_is)
    (case hd => k_is)
    (case po => k_is)
    (case sa => k_is)
    (case n_kind => k_is)
    (case n_parts => k_is)
    (case n_depth => k_is)
    (case n_size => k_is)
    (case mk => k_is)
    (case kc => k_is)
    (case aInit => k_is)
    (case iInit => k_is)
    (case linit => k_is)
    (case cinit => k_is)
    (case kinit => k_is)
    (case rdC => k_is)
    (case gaC => k_is)
    (case sstop => k_is)
    (case rstop => k_is)
    (case lststop => k_is)
    (case cststop => k_is)
    (case kststop => k_is)
    (case snew => k_is)
    (case rnew => k_is)
    (case lstnew => k_is)
    (case cstnew => k_is)
    (case kstnew => k_is)
    (case swhen => k_is)
    (case rwhen => k_is)
    (case lstwhen => k_is)
    (case cstwhen => k_is)
    (case kstwhen => k_is)
    (case scall => k_is)
    (case rcall => k_is)
    (case lstcall => k_is)
    (case cstcall => k_is)
    (case kstcall => k_is)
    (case soffer => k_is)
    (case roffer => k_is)
    (case lstoffer => k_is)
    (case cstoffer => k_is)
    (case kstoffer => k_is)
    (case opF => k_is)
    (case opA => k_is)
    (case opI => k_is)
    (case ladd => k_is)
    (case cadd => k_is)
    (case kadd => k_is)
    (case icC => k_is)
    (case tyC => k_is)
    (case no_str => k_is)
    (case no_int => k_is)
    (case no_tuple => k_is)
    (case haC => k_is)
    (case hnC => k_is)
    (case htC => k_is)
    (case hmC => k_is)
    (case aB => k_is)
    (case xB => k_is)
    (case eiB => kx_is)
    (case saB => k_is)
    (case noB => k_is)
    (case iB => k_is)
    (case tB => k_is)
    (case kB => k_is)
    (case exB => k_is)
    (case veB => k_is)
    (case tyB => k_is)
    (case mroB => k_is)
    (case spB => ks_is)
    (case opq => k_is)
    (case lB => k_is)
    (case cB => k_is)
    (case oB => k_is)
    (case vB => rfl)
    (case fB1 => decide +kernel)
    (case ceB => k_is)
    (case lnB => decide +kernel)
    (case zMB => decide +kernel)
    (case topB => decide +kernel)
    (case gaB => k_is)
    (case ggB => k_is)
    (case hdB => k_is)
    (case icB => k_is)
    (case sbB => first | rfl | k_is)
    (case gL => k_is)
    (case hL => decide +kernel)
    (case gD => k_is)
    (case hD => decide +kernel)
    (case gN => k_is)
    (case hN => decide +kernel)
    (case gT => k_is)
    (case hT => decide +kernel)
    (case gM => k_is)
    (case hM => decide +kernel)
    (case gDe => k_is)
    (case hDe => decide +kernel)
    (case gSi => k_is)
    (case hSi => decide +kernel)
    (case gOp => k_is)
    (case hOp => decide +kernel)
    (case gOf => k_is)
    (case hOf => decide +kernel)
    (case gR => k_is)
    (case lR => k_is)
    (case sR => decide +kernel)
    (case hR => exact .cons ⟨_, rfl⟩ (.cons ⟨_, rfl⟩ (.cons ⟨_, rfl⟩ (.cons ⟨_, rfl⟩ (.cons ⟨_, rfl⟩ (.cons ⟨_, rfl⟩ (.cons ⟨_, rfl⟩ (.cons ⟨_, rfl⟩ (.cons ⟨_, rfl⟩ (.cons ⟨_, rfl⟩ (.cons ⟨_, rfl⟩ .nil)))))))))))
    (case z_isinstance => k_is)
    (case z_str => k_is)
    (case z_int => k_is)
    (case z_bool => k_is)
    (case z_len => k_is)
    (case z_all => k_is)
    (case z_sum => k_is)
    (case z_max => k_is)
    (case z_tuple => k_is)
    (case z_abs => k_is)
    (case z_range => k_is)
    (case z_super => k_is)
    (case z_set => k_is)
    (case z_min => k_is)

