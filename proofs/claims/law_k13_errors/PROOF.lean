import PyProof.Rows.All
import Wide.All
import OpenK.AllK
import Wide.FinOn
import HandS.Base
import HandS.Call
import HandS.List
import HandS.Exc
import HandS.ExcOwn
import HandS.ClsMeth
import KE.DatumOrd
import HandS.SortKw
import HandS.ForMost
import HandS.Evl
import HandS.ForExc
import HandS.Walk
import HandS.IsInst
import HandS.Codes
import PyProof.FString
import KE.KSuper
import KE.KExcSuper
import KE.OsGo
import HandS.ExcField
import HandS.ExcInit
import HandS.ExcValue
import HandS.ExcIs
import HandS.Text
import HandS.More
import HandS.DeepEq
import KE.KExcLine
import KE.RegKSuper
import PySem.Challenge.RW_fullseats_k13_errors
set_option Elab.async false
set_option linter.all false
set_option maxRecDepth 100000
set_option maxHeartbeats 2000000
/-! A staticmethod that is called off its class. -/
namespace FsR
open PySem PySem.Spec PyProof.Rows L2 ClX
structure SMet (K : PySem.W.Frag) (C : Addr) (mc : Value) (m : Str) (p g : Addr) : Prop where
  at_ : PySem.W.findCls K (.ref C) mc m = some (.get (.builtin "staticmethod.__get__") (.ref p) .none (.ref C))
  rc : ∃ rest, PySem.W.recIn K p "staticmethod" = some (.ref g :: rest)
  kp : PySem.W.keepIn K (.ref g) = true
section
variable {X : Cx} {pins : List (Addr × Obj)} {σ : L2.St} {H : Hp} {s : Shared} {C p g : Addr} {mc : Value} {m : Str} {A : Around} {E : Value → Shared → Prop}
theorem getmethsm_ok {pl : Sem Bool} {Q : Value × List Value → Shared → Prop} (I : Inv X pins σ H s) (r : CRead X.K C mc) (k : SMet X.K C mc m p g)
    (h : ∀ s', Inv X pins σ H s' → Q (.ref g, []) s') : wpAny (model X.prog X.w) A (getMethod (.ref C) m pl) Q E s := by
  obtain ⟨rest, hp⟩ := k.rc
  exact PySem.W.method_cls I.kIn r.ga (PySem.W.cls_bind I.kIn r.rd k.at_ (wpAny_call (PySem.W.sm_get (s := { s with toks := s.toks + 1 }) I.kIn hp (PySem.W.handed_on rfl (h _ (I.tok _))))))
end
/-- C.m(..), e the class at C, m a staticmethod; E: what is wanted of what it raises, at the slots -/
def tStat (C : Addr) (sp : Sp) (E : L2.St → XK) (ta : TE) (t : TA) : TE := fun σ H Q => ta σ H fun x H1 => x = .ref C ∧ t σ H1 fun vs H2 => sp vs H2 Q (E σ)
theorem passesAt_of {CX : CXT} {X : Cx} {E : XK} (h : Passes CX X E) (σ : L2.St) : PassesAt CX X σ E := fun pins H s e s' I c => h pins σ H s e s' I c
section
variable {X : Cx} {CX : CXT} {k : Nat} {C p g : Addr} {mc : Value} {fd : FuncData} {ps : List Str} {sp : Sp} {E : L2.St → XK} {o e : Expr} {es : List Expr} {m : Str} {pos apos : Pos} {ta : TE} {t : TA} {pl : Sem Bool}
theorem pe_stat (he : PE X o ta) (r : CRead X.K C mc) (c : SMet X.K C mc m p g) (F : FnOk X.prog X.w X.K X.mg X.base CX k g fd ps sp) (hr : Room k X.A) (hb : Binds X.K fd ps []) (hx : ∀ σ, PassesAt CX X σ (E σ)) (ha : PA X (e :: es) t)
    (hst : starEach (e :: es) X.env = (false, eval e X.env) :: starEach es X.env := by rfl) (hpl : (backTo pos (starEach es X.env)).any (·.1) = false := by rfl)
    (ht : eval (.Call (.Attribute o m apos) (e :: es) [] pos) X.env = (do
      let ov ← eval o X.env
      standAt apos.atName
      let (f, first) ← holding [ov] (getMethod ov m pl)
      callWith pos f first (backTo pos (starEach (e :: es) X.env)) (backToKw pos (keywordEach [] X.env))) := by rfl) :
    PE X (.Call (.Attribute o m apos) (e :: es) [] pos) (tStat C sp E ta t) := by
  refine ⟨fun pins s σ H Q I h => ?_⟩
  refine PySem.W.methodCall_KW (pl := pl) (thn (he.run pins s σ H _ I h) fun u s1 ⟨x, H1, I1, rx, ex, q⟩ => ?_) ht
  subst ex
  obtain rfl : u = Value.ref C := rx
  refine getmethsm_ok I1 r c fun s2 I2 => ?_
  refine PySem.W.callWith_K (first := []) (h₀ := X.base) I.ok.mod.kin c.kp (thn (ha.run pos pins s2 σ H1 _ I2 q) fun us s3 ⟨vs, H2, I3, rv, q2⟩ => ⟨I3.kIn, ?_⟩) hst hpl
  exact run_fnS F hr hb (hx σ) I3 rv q2
theorem pe_stat0 (he : PE X o ta) (r : CRead X.K C mc) (c : SMet X.K C mc m p g) (F : FnOk X.prog X.w X.K X.mg X.base CX k g fd ps sp) (hr : Room k X.A) (hb : Binds X.K fd ps []) (hx : ∀ σ, PassesAt CX X σ (E σ))
    (ht : eval (.Call (.Attribute o m apos) [] [] pos) X.env = (do
      let ov ← eval o X.env
      standAt apos.atName
      let (f, first) ← holding [ov] (getMethod ov m pl)
      callWith pos f first (backTo pos (starEach [] X.env)) (backToKw pos (keywordEach [] X.env))) := by rfl) :
    PE X (.Call (.Attribute o m apos) [] [] pos) (tStat C sp E ta tNil) := by
  refine ⟨fun pins s σ H Q I h => ?_⟩
  refine PySem.W.methodCall_KW (pl := pl) (thn (he.run pins s σ H _ I h) fun u s1 ⟨x, H1, I1, rx, ex, q⟩ => ?_) ht
  subst ex
  obtain rfl : u = Value.ref C := rx
  refine getmethsm_ok I1 r c fun s2 I2 => ?_
  exact PySem.W.callWith_K0 (first := []) I2.kIn c.kp (run_fnS (us := []) (vs := []) F hr hb (hx σ) I2 .nil q)
end
end FsR

set_option Elab.async false
set_option linter.all false
set_option maxRecDepth 100000
set_option maxHeartbeats 2000000
/-! max(xs, default=d) of a list of ints -/
namespace FsR
open PySem PySem.Spec PyProof.Rows L2
def maxFrom (y : Int) (ys : List Int) : Int := ys.foldl max y
def maxDef (d : Int) : List Int → Int
  | [] => d
  | y :: ys => maxFrom y ys
theorem maxOf_eq : ∀ (ys : List Int) (y : Int), PySem.W.maxOf y ys = maxFrom y ys
  | [], y => rfl
  | z :: zs, y => by
    have e : (if PySem.W.DatumOrd.lt y z = true then z else y) = max y z := by
      show (if decide (y < z) = true then z else y) = max y z
      by_cases h : y < z
      · rw [if_pos (decide_eq_true h)]; omega
      · rw [if_neg (by simpa using h)]; omega
    have ih := maxOf_eq zs (max y z)
    unfold PySem.W.maxOf maxFrom at *
    rw [List.foldl_cons, List.foldl_cons, e]
    exact ih
theorem readsAll_ints {h : Heap} : ∀ {vs : List Value} {ns : List Int}, IntsAre vs ns → ∃ as, ReadsAll h vs (ns.map PySem.W.Datum.toD) as
  | _, _, .nil => ⟨[], .nil⟩
  | _, _, .cons n t r => by
    obtain ⟨as, z⟩ := readsAll_ints (h := h) r
    exact ⟨[] ++ as, .cons (.int n t) z⟩
/-- max(xs, default=d) -/
def rMaxD (K : PySem.W.Frag) : List V → List V → Hp → VK → Prop := fun xs zs H Q => ∃ (a : Addr) (ns : List Int) (d : Int), xs = [V.ref a] ∧ zs = [V.int d] ∧ SqL K H a (ns.map V.int) ∧ Q (.int (maxDef d ns)) H
theorem ck_maxD {X : Cx} (hc : X.calm = true) (hu : X.A.units + 1 + 1 < cLine) : CallRK X (.builtin "max") ["default"] (rMaxD X.K) := by
  intro pins s σ H xs zs us ws Q I r rz h
  obtain ⟨a, ns, d, rfl, rfl, hs, q⟩ := h
  obtain ⟨its, rv, hl, _⟩ := I.list hs
  rw [Vals.ref1 r]
  cases rz with
  | cons rd rn =>
    cases rn
    obtain ⟨t, rfl⟩ := rd
    have hI := rv.ints
    show wpAny (model X.prog X.w) X.A (call (.builtin "max") [.ref a] [(Str.ofString "default", .int d t)]) _ _ _
    refine PySem.W.max_list_datum_default (α := Int) (xs := ns) (I.ok.hd hc) hl.isList (readsAll_ints hI) (by show X.A.units + 1 + 0 < cLine; omega) (fun e h' tk hk => ?_) (fun y ys i v h' tk e hi hv hk => ?_)
    · subst e
      exact ⟨.int d, H, I.kept hk, ⟨t, rfl⟩, q⟩
    · subst e
      obtain ⟨as, z⟩ := hv
      have z' : ∃ t', v = Value.int (PySem.W.maxOf y ys) t' := by
        have z2 : Reads h' v (.int (PySem.W.maxOf y ys)) as := z
        cases z2 with
        | int _ t' => exact ⟨t', rfl⟩
      obtain ⟨t', rfl⟩ := z'
      refine ⟨.int (PySem.W.maxOf y ys), H, I.kept hk, ⟨t', rfl⟩, ?_⟩
      rw [maxOf_eq]
      exact q
end FsR

set_option Elab.async false
set_option linter.all false
set_option maxRecDepth 100000
set_option maxHeartbeats 2000000
namespace Fs
open PySem L2 Evl
/-! ### operands, processes, offers -/
inductive Opd where
  | int (i : Int)
  | nm (z : Str)
def Opd.v : Opd → V
  | .int i => .int i
  | .nm z => .str z
mutual
inductive Pr where
  | choice (os : Ofs)
  | new (n : Str) (k : Int) (r : Pr)
  | cond (l r : Opd) (y n : Pr)
  | call (n : Str) (ops : List Opd)
inductive Ofs where
  | nil
  | cons (c : Str) (seat seats : Int) (op : Opd) (names : List Str) (rest : Pr) (os : Ofs)
end
mutual
def Pr.depth : Pr → Int
  | .choice os => 1 + os.depth
  | .new _ _ r => 1 + r.depth
  | .cond _ _ y n => 1 + max y.depth n.depth
  | .call _ _ => 1
def Ofs.depth : Ofs → Int
  | .nil => 0
  | .cons _ _ _ _ _ r os => max r.depth os.depth
end
def Ofs.len : Ofs → Nat
  | .nil => 0
  | .cons _ _ _ _ _ _ os => os.len + 1
mutual
def Pr.size : Pr → Int
  | .choice os => max 1 (os.len : Int) + os.sum
  | .new _ _ r => 1 + r.size
  | .cond _ _ y n => 1 + (y.size + n.size)
  | .call _ _ => 1
def Ofs.sum : Ofs → Int
  | .nil => 0
  | .cons _ _ _ _ _ r os => r.size + os.sum
end
def Pr.kind : Pr → Str
  | .choice _ => "choice"
  | .new _ _ _ => "new"
  | .cond _ _ _ _ => "if"
  | .call _ _ => "call"
/-- the attributes, in the order in which __init__ stores them -/
def pFlds (k : Str) (t : Addr) (d z : Int) : List (Str × V) := putF "size" (.int z) (putF "depth" (.int d) (putF "parts" (.ref t) (putF "kind" (.str k) [])))
theorem n1 : ¬ (("kind" : Str) = "parts") := by decide +kernel
theorem n2 : ¬ (("kind" : Str) = "depth") := by decide +kernel
theorem n3 : ¬ (("kind" : Str) = "size") := by decide +kernel
theorem n4 : ¬ (("parts" : Str) = "depth") := by decide +kernel
theorem n5 : ¬ (("parts" : Str) = "size") := by decide +kernel
theorem n6 : ¬ (("depth" : Str) = "size") := by decide +kernel
theorem pf_kind {k : Str} {t : Addr} {d z : Int} : (pFlds k t d z).lookup ("kind" : Str) = some (.str k) := by
  unfold pFlds
  rw [lookup_putF, if_neg n3, lookup_putF, if_neg n2, lookup_putF, if_neg n1, lookup_putF, if_pos rfl]
theorem pf_parts {k : Str} {t : Addr} {d z : Int} : (pFlds k t d z).lookup ("parts" : Str) = some (.ref t) := by
  unfold pFlds
  rw [lookup_putF, if_neg n5, lookup_putF, if_neg n4, lookup_putF, if_pos rfl]
theorem pf_depth {k : Str} {t : Addr} {d z : Int} : (pFlds k t d z).lookup ("depth" : Str) = some (.int d) := by
  unfold pFlds
  rw [lookup_putF, if_neg n6, lookup_putF, if_pos rfl]
theorem pf_size {k : Str} {t : Addr} {d z : Int} : (pFlds k t d z).lookup ("size" : Str) = some (.int z) := by
  unfold pFlds
  rw [lookup_putF, if_pos rfl]
/-- an instance of the class at C with these parts -/
def InsAt (C : Addr) (H : Hp) (a : Addr) (k : Str) (t : Addr) (d z : Int) : Prop := ∃ dx, H a = some (.ins C dx (pFlds k t d z))
mutual
/-- at a stands the process p -/
def PrAt (C : Addr) (H : Hp) (a : Addr) : Pr → Prop
  | .choice os => ∃ t ps, InsAt C H a "choice" t (1 + os.depth) (max 1 (os.len : Int) + os.sum) ∧ H t = some (.tup ps) ∧ OfsAt C H ps os
  | .new n k r => ∃ t b, InsAt C H a "new" t (1 + r.depth) (1 + r.size) ∧ H t = some (.tup [.str n, .int k, .ref b]) ∧ PrAt C H b r
  | .cond l r y n => ∃ t b c, InsAt C H a "if" t (1 + max y.depth n.depth) (1 + (y.size + n.size)) ∧ H t = some (.tup [l.v, r.v, .ref b, .ref c]) ∧ PrAt C H b y ∧ PrAt C H c n
  | .call n ops => ∃ t u, InsAt C H a "call" t 1 1 ∧ H t = some (.tup [.str n, .ref u]) ∧ H u = some (.tup (ops.map Opd.v))
def OfsAt (C : Addr) (H : Hp) (ps : List V) : Ofs → Prop
  | .nil => ps = []
  | .cons c s m op ns r os => ∃ o u b qs, ps = .ref o :: qs ∧ H o = some (.tup [.str c, .int s, .int m, op.v, .ref u, .ref b]) ∧ H u = some (.tup (ns.map V.str)) ∧ PrAt C H b r ∧ OfsAt C H qs os
end
theorem InsAt.ex {C : Addr} {H H' : Hp} {a : Addr} {k : Str} {t : Addr} {d z : Int} (e : Ex H H') (h : InsAt C H a k t d z) : InsAt C H' a k t d z := by
  obtain ⟨dx, h⟩ := h
  exact ⟨dx, e _ _ h⟩
mutual
theorem PrAt.ex {C : Addr} {H H' : Hp} (e : Ex H H') : ∀ {p : Pr} {a : Addr}, PrAt C H a p → PrAt C H' a p
  | .choice os, a, h => by
    unfold PrAt at h ⊢
    obtain ⟨t, ps, h1, h2, h3⟩ := h
    exact ⟨t, ps, h1.ex e, e _ _ h2, OfsAt.ex e h3⟩
  | .new n k r, a, h => by
    unfold PrAt at h ⊢
    obtain ⟨t, b, h1, h2, h3⟩ := h
    exact ⟨t, b, h1.ex e, e _ _ h2, PrAt.ex e h3⟩
  | .cond l r y n, a, h => by
    unfold PrAt at h ⊢
    obtain ⟨t, b, c, h1, h2, h3, h4⟩ := h
    exact ⟨t, b, c, h1.ex e, e _ _ h2, PrAt.ex e h3, PrAt.ex e h4⟩
  | .call n ops, a, h => by
    unfold PrAt at h ⊢
    obtain ⟨t, u, h1, h2, h3⟩ := h
    exact ⟨t, u, h1.ex e, e _ _ h2, e _ _ h3⟩
theorem OfsAt.ex {C : Addr} {H H' : Hp} (e : Ex H H') : ∀ {os : Ofs} {ps : List V}, OfsAt C H ps os → OfsAt C H' ps os
  | .nil, ps, h => by
    unfold OfsAt at h ⊢
    exact h
  | .cons c s m op ns r os, ps, h => by
    unfold OfsAt at h ⊢
    obtain ⟨o, u, b, qs, h1, h2, h3, h4, h5⟩ := h
    exact ⟨o, u, b, qs, h1, e _ _ h2, e _ _ h3, PrAt.ex e h4, OfsAt.ex e h5⟩
end
/-- whatever the process: its instance -/
theorem PrAt.ins {C : Addr} {H : Hp} {p : Pr} {a : Addr} (h : PrAt C H a p) : ∃ t ps, InsAt C H a p.kind t p.depth p.size ∧ H t = some (.tup ps) := by
  cases p with
  | choice os =>
    unfold PrAt at h
    obtain ⟨t, ps, h1, h2, _⟩ := h
    exact ⟨t, ps, by unfold Pr.kind Pr.depth Pr.size; exact h1, h2⟩
  | new n k r =>
    unfold PrAt at h
    obtain ⟨t, b, h1, h2, _⟩ := h
    exact ⟨t, _, by unfold Pr.kind Pr.depth Pr.size; exact h1, h2⟩
  | cond l r y n =>
    unfold PrAt at h
    obtain ⟨t, b, c, h1, h2, _⟩ := h
    exact ⟨t, _, by unfold Pr.kind Pr.depth Pr.size; exact h1, h2⟩
  | call n ops =>
    unfold PrAt at h
    obtain ⟨t, u, h1, h2, _⟩ := h
    exact ⟨t, _, by unfold Pr.kind Pr.depth Pr.size; exact h1, h2⟩
end Fs

set_option Elab.async false
set_option linter.all false
set_option maxRecDepth 100000
set_option maxHeartbeats 2000000
/-! further Ev lemmas -/
namespace FsE
open PySem L2 Evl
section
variable {K : PySem.W.Frag} {σ : L2.St} {H : Hp} {ta tb tc te : TE} {x y z : V}
theorem ev_chain {r r' : R2} {a b : Bool} (ha : Ev ta σ H x) (hb : Ev tb σ H y) (h1 : RV r x y H (.bl a)) (hc : a = true → Ev tc σ H z) (h2 : a = true → RV r' y z H (.bl b)) : Ev (tChain r r' ta tb tc) σ H (.bl (a && b)) := fun H1 e Q q =>
  ha H1 e _ fun H2 e2 => hb H2 (e.trans e2) _ fun H3 e3 => h1 H3 ((e.trans e2).trans e3) _ fun H4 e4 => ⟨a, rfl, by
    cases a with
    | true =>
      show tc σ H4 _
      exact hc rfl H4 (((e.trans e2).trans e3).trans e4) _ fun H5 e5 => h2 rfl H5 ((((e.trans e2).trans e3).trans e4).trans e5) Q fun H6 e6 => q H6 ((((e2.trans e3).trans e4).trans e5).trans e6)
    | false =>
      show Q (.bl false) H4
      exact q H4 ((e2.trans e3).trans e4)⟩
theorem rc_isi {t T : String} {b : Bool} (ht : ∀ H1, Ex H H1 → TyX K H1 x (.type t)) (hk : kitB t T = some b) : RC (rIsi K) [x, .ty T] H (.bl b) := fun H1 e Q q =>
  ⟨x, .ty T, .type t, .type T, b, rfl, .ty T, ht H1 e, kit_ty hk, q H1 (Ex.refl H1)⟩
theorem rc_isStr {z : Str} {T : String} {b : Bool} (hk : kitB "str" T = some b) : RC (rIsi K) [.str z, .ty T] H (.bl b) := rc_isi (fun _ _ => .base (.str z)) hk
theorem rc_isInt {i : Int} {T : String} {b : Bool} (hk : kitB "int" T = some b) : RC (rIsi K) [.int i, .ty T] H (.bl b) := rc_isi (fun _ _ => .base (.int i)) hk
/-- len of a text -/
theorem rc_lenS {z : Str} (hz : z.length ≤ sizeLine) : RC (fun xs H Q => ∃ a, xs = [.str a] ∧ a.length ≤ sizeLine ∧ Q (.int (a.length : Nat)) H) [.str z] H (.int (z.length : Nat)) := fun H1 _ _ q => ⟨z, rfl, hz, q H1 (Ex.refl H1)⟩
theorem rv_inSign {c : Nat} {z : Str} : RV (fun x y H Q => ∃ (c : Nat) (z : Str), x = .str ⟨#[c]⟩ ∧ y = .str z ∧ Q (.bl (decide (c ∈ z.cps.toList))) H) (.str ⟨#[c]⟩) (.str z) H (.bl (decide (c ∈ z.cps.toList))) := fun H1 _ _ q => ⟨c, z, rfl, rfl, q H1 (Ex.refl H1)⟩
theorem rv_niSign {c : Nat} {z : Str} : RV (fun x y H Q => ∃ (c : Nat) (z : Str), x = .str ⟨#[c]⟩ ∧ y = .str z ∧ Q (.bl (!decide (c ∈ z.cps.toList))) H) (.str ⟨#[c]⟩) (.str z) H (.bl (!decide (c ∈ z.cps.toList))) := fun H1 _ _ q => ⟨c, z, rfl, rfl, q H1 (Ex.refl H1)⟩
/-- a comprehension over a text -/
theorem el_lcS {z : Str} {tl : TE} {j : Nat} {vs : List Nat} {t : TT} (f : Nat → Bool) (v : Nat → V) (h : Ev tl σ H (.str z)) (hz : z.cps.size ≤ 40000) (hw : ∀ x, wipe ((wipe σ vs).set j (some x)) vs = wipe σ vs)
    (ht : ∀ (i : Nat) (c : Nat) H1, Ex H H1 → z.cps[i]? = some c → EvT t ((wipe σ vs).set j (some (.str ⟨#[c]⟩))) H1 (f i)) (he : ∀ (i : Nat) (c : Nat) H1, Ex H H1 → z.cps[i]? = some c → f i = true → Ev te ((wipe σ vs).set j (some (.str ⟨#[c]⟩))) H1 (v i)) :
    EvL (tLc (iStr tl) (gName j) t te vs) σ H (given z.cps.size f v) := fun H0 e Q q => h H0 e _ fun H1 e1 => ⟨z, rfl, fun Dl hD =>
  lc_it walk_str (Cw H1 f v Dl) ⟨hD, Ex.new hD, upd_same⟩ (fun _ _ _ _ => trivial) (fun i x H' H2 hi p y => by
    obtain ⟨rfl, c, hc, rfl⟩ := y
    exact ⟨hw _, cw_turn p (by omega) (ht i c H1 (e.trans e1) hc) (fun hf => he i c H1 (e.trans e1) hc hf)⟩)
    (fun H' p => q Dl H' (fresh_back e1 p.1) (e1.trans p.2.1) p.2.2)⟩
/-- all of a new list of bools -/
theorem ev_all {bs : List Bool} (h : EvL te σ H (bs.map V.bl)) : Ev (tCB (rAll K) (tCons te tNil)) σ H (.bl (bs.all id)) := fun H1 e Q q =>
  h H1 e _ fun p H2 _ e2 hp => ⟨p, bs, rfl, sq_of hp, q H2 e2⟩
/-- given, no test -/
theorem given_all {n : Nat} {v : Nat → V} : given n (fun _ => true) v = (List.range n).map v := by
  unfold given
  rw [List.filter_eq_self.mpr (fun _ _ => rfl)]
theorem et_nil : EvT tYes σ H true := fun H1 _ _ q => q H1 (Ex.refl H1)
theorem range_map {α : Type} (xs : List α) (d : α) (v : α → V) : (List.range xs.length).map (fun i => v (xs.getD i d)) = xs.map v := by
  refine List.ext_getElem? fun i => ?_
  rw [List.getElem?_map, List.getElem?_map]
  by_cases hi : i < xs.length
  · rw [List.getElem?_range hi, List.getElem?_eq_getElem hi]
    show some (v (xs.getD i d)) = some (v xs[i])
    rw [List.getD_eq_getElem?_getD, List.getElem?_eq_getElem hi]
    rfl
  · rw [List.getElem?_eq_none (by rw [List.length_range]; omega), List.getElem?_eq_none (by omega)]
    rfl
/-- [e for c in text] -/
theorem el_lcSm {z : Str} {tl : TE} {j : Nat} {vs : List Nat} (v : Nat → V) (h : Ev tl σ H (.str z)) (hz : z.length ≤ 40000) (hw : ∀ x, wipe ((wipe σ vs).set j (some x)) vs = wipe σ vs)
    (he : ∀ (c : Nat) H1, Ex H H1 → c ∈ z.cps.toList → Ev te ((wipe σ vs).set j (some (.str ⟨#[c]⟩))) H1 (v c)) : EvL (tLc (iStr tl) (gName j) tYes te vs) σ H (z.cps.toList.map v) := by
  have g := el_lcS (te := te) (j := j) (vs := vs) (t := tYes) (fun _ => true) (fun i => v (z.cps.toList.getD i 0)) h hz hw (fun _ _ _ _ _ => et_nil) (fun i c H3 e hc _ => by
    have e1 : z.cps.toList.getD i 0 = c := by
      rw [List.getD_eq_getElem?_getD, Array.getElem?_toList, hc]
      rfl
    rw [e1]
    exact he c H3 e (by rw [List.mem_iff_getElem?]; exact ⟨i, by rw [Array.getElem?_toList, hc]⟩))
  rw [given_all] at g
  have e := range_map z.cps.toList 0 v
  rw [Array.length_toList] at e
  rw [e] at g
  exact g
/-- [e for x in list] -/
theorem el_lcLm {a : Addr} {xs : List V} {tl : TE} {j : Nat} {vs : List Nat} (v : V → V) (h : Ev tl σ H (.ref a)) (hx : SqL K H a xs) (hz : xs.length ≤ 40000) (hw : ∀ x, wipe ((wipe σ vs).set j (some x)) vs = wipe σ vs)
    (he : ∀ (x : V) H1, Ex H H1 → x ∈ xs → Ev te ((wipe σ vs).set j (some x)) H1 (v x)) : EvL (tLc (iList K tl) (gName j) tYes te vs) σ H (xs.map v) := by
  have g := el_lcL (K := K) (te := te) (j := j) (vs := vs) (t := tYes) (fun _ => true) (fun i => v (xs.getD i .non)) h hx hz hw (fun _ _ _ _ _ => et_nil) (fun i x H3 e hc _ => by
    have e1 : xs.getD i .non = x := by
      rw [List.getD_eq_getElem?_getD, hc]
      rfl
    rw [e1]
    exact he x H3 e (List.mem_iff_getElem?.mpr ⟨i, hc⟩))
  rw [given_all, range_map xs .non v] at g
  exact g
/-- [e for x in (a new list)] -/
theorem el_lcNLm {xs : List V} {tl : TE} {j : Nat} {vs : List Nat} (v : V → V) (h : EvL tl σ H xs) (hz : xs.length ≤ 40000) (hw : ∀ x, wipe ((wipe σ vs).set j (some x)) vs = wipe σ vs)
    (he : ∀ (x : V) H1, Ex H H1 → x ∈ xs → Ev te ((wipe σ vs).set j (some x)) H1 (v x)) : EvL (tLc (iList K tl) (gName j) tYes te vs) σ H (xs.map v) := by
  have g := el_lcNL (K := K) (te := te) (j := j) (vs := vs) (t := tYes) (fun _ => true) (fun i => v (xs.getD i .non)) h hz hw (fun _ _ _ _ _ => et_nil) (fun i x H3 e hc _ => by
    have e1 : xs.getD i .non = x := by
      rw [List.getD_eq_getElem?_getD, hc]
      rfl
    rw [e1]
    exact he x H3 e (List.mem_iff_getElem?.mpr ⟨i, hc⟩))
  rw [given_all, range_map xs .non v] at g
  exact g
/-- [e for k in range(n)] -/
theorem el_lcRm {tn : TA} {j : Nat} {vs : List Nat} {n : Int} (v : Nat → V) (h : EvA tn σ H [.int n]) (hn : 0 ≤ n ∧ n ≤ 40000) (hw : ∀ x, wipe ((wipe σ vs).set j (some x)) vs = wipe σ vs)
    (he : ∀ (i : Nat) H1, Ex H H1 → (i : Int) < n → Ev te ((wipe σ vs).set j (some (.int (i : Int)))) H1 (v i)) : EvL (tLc (iRng1 tn) (gName j) tYes te vs) σ H ((List.range n.toNat).map v) := by
  have g := el_lcR1 (te := te) (j := j) (vs := vs) (t := tYes) (fun _ => true) v h hn hw (fun _ _ _ _ => et_nil) (fun i H1 e hi _ => he i H1 e hi)
  rw [given_all] at g
  exact g
/-- a comprehension over a tuple -/
theorem el_lcT {a : Addr} {xs : List V} {tl : TE} {j : Nat} {vs : List Nat} {t : TT} (f : Nat → Bool) (v : Nat → V) (h : Ev tl σ H (.ref a)) (hx : SqT K H a xs) (hz : xs.length ≤ 40000) (hw : ∀ x, wipe ((wipe σ vs).set j (some x)) vs = wipe σ vs)
    (ht : ∀ (i : Nat) (x : V) H1, Ex H H1 → xs[i]? = some x → EvT t ((wipe σ vs).set j (some x)) H1 (f i)) (he : ∀ (i : Nat) (x : V) H1, Ex H H1 → xs[i]? = some x → f i = true → Ev te ((wipe σ vs).set j (some x)) H1 (v i)) :
    EvL (tLc (iTup K tl) (gName j) t te vs) σ H (given xs.length f v) := fun H0 e Q q => h H0 e _ fun H1 e1 => ⟨a, rfl, ⟨xs, ex_t (e.trans e1) hx⟩, fun Dl hD =>
  lc_tup (xs := xs) (Cw H1 f v Dl) ⟨hD, Ex.new hD, upd_same⟩ (fun i H' _ p => ex_t ((e.trans e1).trans p.2.1) hx) (fun i x H' hi p => ⟨hw x, cw_turn p (by have := (List.getElem?_eq_some_iff.mp hi).1; omega) (ht i x H1 (e.trans e1) hi) (fun hf => he i x H1 (e.trans e1) hi hf)⟩)
    (fun H' p => q Dl H' (fresh_back e1 p.1) (e1.trans p.2.1) p.2.2)⟩
theorem ev_fld {a C dx : Addr} {fs : List (Str × V)} {f : Str} {v : V} (h : Ev ta σ H (.ref a)) (hi : H a = some (.ins C dx fs)) (cl : Cls K C) (n : NoAttr K C f) (l : fs.lookup f = some v) : Ev (tFld K ta f) σ H v := fun H1 e Q q =>
  h H1 e _ fun H2 e2 => ⟨a, C, dx, fs, v, rfl, (e.trans e2) _ _ hi, cl, n, l, q H2 e2⟩
theorem ev_sum {ns : List Int} (h : EvL te σ H (ns.map V.int)) : Ev (tCB (rSum K) (tCons te tNil)) σ H (.int ns.sum) := fun H1 e Q q =>
  h H1 e _ fun p H2 _ e2 hp => ⟨p, ns, rfl, sq_of hp, q H2 e2⟩
theorem ev_maxD {ns : List Int} {d : Int} (h : EvL te σ H (ns.map V.int)) : Ev (tCKw (FsR.rMaxD K) (tCons te tNil) (tCons (tC (.int d)) tNil)) σ H (.int (FsR.maxDef d ns)) := fun H1 e Q q =>
  h H1 e _ fun p H2 _ e2 hp => ⟨p, ns, d, rfl, rfl, sq_of hp, q H2 e2⟩
theorem ev_lenT {a : Addr} {xs : List V} (h : Ev ta σ H (.ref a)) (hx : SqT K H a xs) : Ev (tCB (fun xs H Q => ∃ p ys, xs = [V.ref p] ∧ (SqL K H p ys ∨ SqT K H p ys) ∧ Q (.int ys.length) H) (tCons ta tNil)) σ H (.int (xs.length : Int)) := fun H1 e Q q =>
  h H1 e _ fun H2 e2 => ⟨a, xs, rfl, .inr (ex_t (e.trans e2) hx), q H2 e2⟩
theorem rc_isiOwn {C : Addr} {t : Value} {b : Bool} (ht : ∀ H1, Ex H H1 → TyX K H1 x t) (hk : PySem.W.kitOne K t (.ref C) = some b) : RC (rIsi K) [x, .ref C] H (.bl b) := fun H1 e Q q =>
  ⟨x, .ref C, t, .ref C, b, rfl, .own C, ht H1 e, hk, q H1 (Ex.refl H1)⟩
theorem range_ys {xs ys : List V} (hl : ys.length = xs.length) : (List.range xs.length).map (fun i => ys.getD i .non) = ys := by
  have e := range_map ys .non (fun y => y)
  rw [List.map_id', hl] at e
  exact e
/-- comprehensions, the result told by its items -/
theorem el_lcNLy {xs ys : List V} {tl : TE} {j : Nat} {vs : List Nat} (h : EvL tl σ H xs) (hz : xs.length ≤ 40000) (hw : ∀ x, wipe ((wipe σ vs).set j (some x)) vs = wipe σ vs) (hl : ys.length = xs.length)
    (he : ∀ (i : Nat) (x y : V) H1, Ex H H1 → xs[i]? = some x → ys[i]? = some y → Ev te ((wipe σ vs).set j (some x)) H1 y) : EvL (tLc (iList K tl) (gName j) tYes te vs) σ H ys := by
  have g := el_lcNL (K := K) (te := te) (j := j) (vs := vs) (t := tYes) (fun _ => true) (fun i => ys.getD i .non) h hz hw (fun _ _ _ _ _ => et_nil) (fun i x H3 e hc _ => by
    have hi := (List.getElem?_eq_some_iff.mp hc).1
    have hy : ys[i]? = some (ys.getD i .non) := by rw [List.getD_eq_getElem?_getD, List.getElem?_eq_getElem (by omega)]; rfl
    exact he i x _ H3 e hc hy)
  rw [given_all, range_ys hl] at g
  exact g
theorem el_lcLy {a : Addr} {xs ys : List V} {tl : TE} {j : Nat} {vs : List Nat} (h : Ev tl σ H (.ref a)) (hx : SqL K H a xs) (hz : xs.length ≤ 40000) (hw : ∀ x, wipe ((wipe σ vs).set j (some x)) vs = wipe σ vs) (hl : ys.length = xs.length)
    (he : ∀ (i : Nat) (x y : V) H1, Ex H H1 → xs[i]? = some x → ys[i]? = some y → Ev te ((wipe σ vs).set j (some x)) H1 y) : EvL (tLc (iList K tl) (gName j) tYes te vs) σ H ys := by
  have g := el_lcL (K := K) (te := te) (j := j) (vs := vs) (t := tYes) (fun _ => true) (fun i => ys.getD i .non) h hx hz hw (fun _ _ _ _ _ => et_nil) (fun i x H3 e hc _ => by
    have hi := (List.getElem?_eq_some_iff.mp hc).1
    have hy : ys[i]? = some (ys.getD i .non) := by rw [List.getD_eq_getElem?_getD, List.getElem?_eq_getElem (by omega)]; rfl
    exact he i x _ H3 e hc hy)
  rw [given_all, range_ys hl] at g
  exact g
theorem el_lcTy {a : Addr} {xs ys : List V} {tl : TE} {j : Nat} {vs : List Nat} (h : Ev tl σ H (.ref a)) (hx : SqT K H a xs) (hz : xs.length ≤ 40000) (hw : ∀ x, wipe ((wipe σ vs).set j (some x)) vs = wipe σ vs) (hl : ys.length = xs.length)
    (he : ∀ (i : Nat) (x y : V) H1, Ex H H1 → xs[i]? = some x → ys[i]? = some y → Ev te ((wipe σ vs).set j (some x)) H1 y) : EvL (tLc (iTup K tl) (gName j) tYes te vs) σ H ys := by
  have g := el_lcT (K := K) (te := te) (j := j) (vs := vs) (t := tYes) (fun _ => true) (fun i => ys.getD i .non) h hx hz hw (fun _ _ _ _ _ => et_nil) (fun i x H3 e hc _ => by
    have hi := (List.getElem?_eq_some_iff.mp hc).1
    have hy : ys[i]? = some (ys.getD i .non) := by rw [List.getD_eq_getElem?_getD, List.getElem?_eq_getElem (by omega)]; rfl
    exact he i x _ H3 e hc hy)
  rw [given_all, range_ys hl] at g
  exact g
end
end FsE

set_option Elab.async false
set_option linter.all false
set_option maxRecDepth 100000
set_option maxHeartbeats 2000000
namespace FsC
open PySem L2 Evl ClX FsR
/-- a def of the module that may be called by its name -/
structure CalX (P : Program) (w : World) (K : PySem.W.Frag) (mg : Str → Option Value) (base : Heap) (CX : CXT) (k : Nat) (x : Str) (sp : Sp) : Prop where
  ex : ∃ (f : Addr) (fd : FuncData) (ps : List Str), FnOk P w K mg base CX k f fd ps sp ∧ mg x = some (.ref f) ∧ PySem.W.keepIn K (.ref f) = true ∧ Binds K fd ps []
/-- C.m, a staticmethod of the class at C -/
structure StaX (P : Program) (w : World) (K : PySem.W.Frag) (mg : Str → Option Value) (base : Heap) (CX : CXT) (k : Nat) (C : Addr) (m : Str) (sp : Sp) : Prop where
  ex : ∃ (p f : Addr) (mc : Value) (fd : FuncData) (ps : List Str), CRead K C mc ∧ SMet K C mc m p f ∧ FnOk P w K mg base CX k f fd ps sp ∧ Binds K fd ps []
/-- C(..): a class that is made by its name -/
structure MakX (P : Program) (w : World) (K : PySem.W.Frag) (mg : Str → Option Value) (base : Heap) (CX : CXT) (k : Nat) (x : Str) (C : Addr) (sp : Sp) : Prop where
  ex : ∃ (f : Addr) (fd : FuncData) (ps : List Str), Mk K C f ∧ FnOk P w K mg base CX k f fd ps sp ∧ mg x = some (.ref C) ∧ Binds K fd ps []
section
variable {X : Cx} {CX : CXT} {k j : Nat} {C : Addr} {x m : Str} {sp : Sp} {E : L2.St → XK} {p pos apos : Pos} {e o : Expr} {es : List Expr} {ta : TE} {t : TA}
theorem pe_cx (c : CalX X.prog X.w X.K X.mg X.base CX k x sp) (hr : Room j X.A) (hk : k ≤ j) (hg : Gl X x) (hx : ∀ σ, PassesAt CX X σ (E σ)) (ha : PA X (e :: es) t)
    (hdb : (x == ("__debug__" : Str)) = false := by decide) (he : starEach (e :: es) X.env = (false, eval e X.env) :: starEach es X.env := by rfl) (hpl : (backTo pos (starEach es X.env)).any (·.1) = false := by rfl) :
    PE X (.Call (.Name x p) (e :: es) [] pos) (tCallS sp E t) := by
  obtain ⟨f, fd, ps, F, hm, kp, b⟩ := c.ex
  exact pe_callS F (hr.mono hk) hg hm kp b hx ha hdb he hpl
theorem pe_sx {pl : Sem Bool} (c : StaX X.prog X.w X.K X.mg X.base CX k C m sp) (hr : Room j X.A) (hk : k ≤ j) (ho : PE X o ta) (hx : ∀ σ, PassesAt CX X σ (E σ)) (ha : PA X (e :: es) t)
    (hst : starEach (e :: es) X.env = (false, eval e X.env) :: starEach es X.env := by rfl) (hpl : (backTo pos (starEach es X.env)).any (·.1) = false := by rfl)
    (ht : eval (.Call (.Attribute o m apos) (e :: es) [] pos) X.env = (do
      let ov ← eval o X.env
      standAt apos.atName
      let (f, first) ← holding [ov] (getMethod ov m pl)
      callWith pos f first (backTo pos (starEach (e :: es) X.env)) (backToKw pos (keywordEach [] X.env))) := by rfl) :
    PE X (.Call (.Attribute o m apos) (e :: es) [] pos) (tStat C sp E ta t) := by
  obtain ⟨p, f, mc, fd, ps, r, s, F, b⟩ := c.ex
  exact pe_stat (pl := pl) ho r s F (hr.mono hk) b hx ha hst hpl ht
theorem pe_sx0 {pl : Sem Bool} (c : StaX X.prog X.w X.K X.mg X.base CX k C m sp) (hr : Room j X.A) (hk : k ≤ j) (ho : PE X o ta) (hx : ∀ σ, PassesAt CX X σ (E σ))
    (ht : eval (.Call (.Attribute o m apos) [] [] pos) X.env = (do
      let ov ← eval o X.env
      standAt apos.atName
      let (f, first) ← holding [ov] (getMethod ov m pl)
      callWith pos f first (backTo pos (starEach [] X.env)) (backToKw pos (keywordEach [] X.env))) := by rfl) :
    PE X (.Call (.Attribute o m apos) [] [] pos) (tStat C sp E ta tNil) := by
  obtain ⟨p, f, mc, fd, ps, r, s, F, b⟩ := c.ex
  exact pe_stat0 (pl := pl) ho r s F (hr.mono hk) b hx ht
theorem pe_mx {E : XK} (c : MakX X.prog X.w X.K X.mg X.base CX k x C sp) (hr : Room j X.A) (hk : k + 1 ≤ j) (hg : Gl X x) (hx : Passes CX X E) (ha : PA X (e :: es) t)
    (hdb : (x == ("__debug__" : Str)) = false := by decide) (he : starEach (e :: es) X.env = (false, eval e X.env) :: starEach es X.env := by rfl) (hpl : (backTo pos (starEach es X.env)).any (·.1) = false := by rfl) :
    PE X (.Call (.Name x p) (e :: es) [] pos) (tMake C sp [] E t) := by
  obtain ⟨f, fd, ps, M, F, hm, b⟩ := c.ex
  exact pe_make M F (hr.mono hk) hg hm b .nil hx ha hdb he hpl
theorem at0 {X : Cx} {E : L2.St → XK} : ∀ σ, PassesAt CX0 X σ (E σ) := fun _ _ _ _ _ _ _ h => h.elim
/-- what a call within a def that may raise lets out -/
theorem atX {P : Program} {w : World} {X : Cx} {E : XK} (h : Passes (L2.CX P w) X E) : ∀ σ, PassesAt (L2.CX P w) X σ ((fun _ => E) σ) := fun σ => passesAt_of h σ
end
section
variable {σ : L2.St} {H : Hp} {z : V} {sp : Sp} {ta : TA} {vs : List V} {E : L2.St → XK}
theorem ev_cx (h : EvA ta σ H vs) (hs : SpV sp vs H z) : Ev (tCallS sp E ta) σ H z := fun H1 e Q q =>
  h H1 e _ fun H2 e2 => hs H2 (e.trans e2) Q (fun H3 e3 => q H3 (e2.trans e3)) (E σ)
theorem ev_sx {C : Addr} {to : TE} (ho : Ev to σ H (.ref C)) (h : EvA ta σ H vs) (hs : SpV sp vs H z) : Ev (tStat C sp E to ta) σ H z := fun H1 e Q q =>
  ho H1 e _ fun H2 e2 => ⟨rfl, h H2 (e.trans e2) _ fun H3 e3 => hs H3 ((e.trans e2).trans e3) Q (fun H4 e4 => q H4 ((e2.trans e3).trans e4)) (E σ)⟩
theorem el_cx {xs : List V} (h : EvA ta σ H vs) (hs : SpL sp vs H xs) : EvL (tCallS sp E ta) σ H xs := fun H1 e Q q =>
  h H1 e _ fun H2 e2 => hs H2 (e.trans e2) Q (fun p H3 hp e3 h3 => q p H3 (fresh_back e2 hp) (e2.trans e3) h3) (E σ)
end
end FsC

set_option Elab.async false
set_option linter.all false
set_option maxRecDepth 100000
set_option maxHeartbeats 2000000
namespace Fs
open PySem L2 Evl FsE FsC FsR
/-- the parts of a process, as its tuple holds them -/
def PartsAt (C : Addr) (H : Hp) (ps : List V) : Pr → Prop
  | .choice os => OfsAt C H ps os
  | .new n k r => ∃ b, ps = [.str n, .int k, .ref b] ∧ PrAt C H b r
  | .cond l r y n => ∃ b c, ps = [l.v, r.v, .ref b, .ref c] ∧ PrAt C H b y ∧ PrAt C H c n
  | .call n ops => ∃ u, ps = [.str n, .ref u] ∧ H u = some (.tup (ops.map Opd.v))
theorem PartsAt.ex {C : Addr} {H H' : Hp} {ps : List V} {p : Pr} (e : Ex H H') (h : PartsAt C H ps p) : PartsAt C H' ps p := by
  cases p with
  | choice os => exact OfsAt.ex e h
  | new n k r =>
    obtain ⟨b, h1, h2⟩ := h
    exact ⟨b, h1, h2.ex e⟩
  | cond l r y n =>
    obtain ⟨b, c, h1, h2, h3⟩ := h
    exact ⟨b, c, h1, h2.ex e, h3.ex e⟩
  | call n ops =>
    obtain ⟨u, h1, h2⟩ := h
    exact ⟨u, h1, e _ _ h2⟩
theorem PrAt.mk {C : Addr} {H : Hp} {a t : Addr} {ps : List V} {p : Pr} (h1 : InsAt C H a p.kind t p.depth p.size) (h2 : H t = some (.tup ps)) (h3 : PartsAt C H ps p) : PrAt C H a p := by
  cases p with
  | choice os =>
    unfold PrAt
    unfold Pr.kind Pr.depth Pr.size at h1
    exact ⟨t, ps, h1, h2, h3⟩
  | new n k r =>
    unfold PrAt
    unfold Pr.kind Pr.depth Pr.size at h1
    obtain ⟨b, rfl, h4⟩ := h3
    exact ⟨t, b, h1, h2, h4⟩
  | cond l r y n =>
    unfold PrAt
    unfold Pr.kind Pr.depth Pr.size at h1
    obtain ⟨b, c, rfl, h4, h5⟩ := h3
    exact ⟨t, b, c, h1, h2, h4, h5⟩
  | call n ops =>
    unfold PrAt
    unfold Pr.kind Pr.depth Pr.size at h1
    obtain ⟨u, rfl, h4⟩ := h3
    exact ⟨t, u, h1, h2, h4⟩
theorem PrAt.out {C : Addr} {H : Hp} {a : Addr} {p : Pr} (h : PrAt C H a p) : ∃ t ps, InsAt C H a p.kind t p.depth p.size ∧ H t = some (.tup ps) ∧ PartsAt C H ps p := by
  cases p with
  | choice os =>
    unfold PrAt at h
    obtain ⟨t, ps, h1, h2, h3⟩ := h
    exact ⟨t, ps, by unfold Pr.kind Pr.depth Pr.size; exact h1, h2, h3⟩
  | new n k r =>
    unfold PrAt at h
    obtain ⟨t, b, h1, h2, h3⟩ := h
    exact ⟨t, _, by unfold Pr.kind Pr.depth Pr.size; exact h1, h2, b, rfl, h3⟩
  | cond l r y n =>
    unfold PrAt at h
    obtain ⟨t, b, c, h1, h2, h3, h4⟩ := h
    exact ⟨t, _, by unfold Pr.kind Pr.depth Pr.size; exact h1, h2, b, c, rfl, h3, h4⟩
  | call n ops =>
    unfold PrAt at h
    obtain ⟨t, u, h1, h2, h3⟩ := h
    exact ⟨t, _, by unfold Pr.kind Pr.depth Pr.size; exact h1, h2, u, rfl, h3⟩
/-! ### what is contained directly -/
def Ofs.rests : Ofs → List Pr
  | .nil => []
  | .cons _ _ _ _ _ r os => r :: os.rests
def Pr.inner : Pr → List Pr
  | .choice os => os.rests
  | .new _ _ r => [r]
  | .cond _ _ y n => [y, n]
  | .call _ _ => []
/-- a list of processes, by their addresses -/
def InnAt (C : Addr) (H : Hp) : List V → List Pr → Prop
  | [], [] => True
  | x :: xs, p :: ps => (∃ a, x = .ref a ∧ PrAt C H a p) ∧ InnAt C H xs ps
  | _, _ => False
theorem InnAt.ex {C : Addr} {H H' : Hp} (e : Ex H H') : ∀ {xs : List V} {ps : List Pr}, InnAt C H xs ps → InnAt C H' xs ps
  | [], [], _ => True.intro
  | x :: xs, p :: ps, ⟨⟨a, h1, h2⟩, h3⟩ => ⟨⟨a, h1, h2.ex e⟩, InnAt.ex e h3⟩
  | [], _ :: _, h => h.elim
  | _ :: _, [], h => h.elim
theorem InnAt.get {C : Addr} {H : Hp} : ∀ {xs : List V} {ps : List Pr} {x : V}, InnAt C H xs ps → x ∈ xs → ∃ a p, x = .ref a ∧ PrAt C H a p ∧ p ∈ ps
  | [], _, _, _, hx => nomatch hx
  | y :: xs, [], _, h, _ => h.elim
  | y :: xs, p :: ps, x, ⟨⟨a, h1, h2⟩, h3⟩, hx => by
    rcases List.mem_cons.mp hx with rfl | hx
    · exact ⟨a, p, h1, h2, List.mem_cons_self⟩
    · obtain ⟨b, q, k1, k2, k3⟩ := InnAt.get h3 hx
      exact ⟨b, q, k1, k2, List.mem_cons_of_mem _ k3⟩
theorem InnAt.length {C : Addr} {H : Hp} : ∀ {xs : List V} {ps : List Pr}, InnAt C H xs ps → xs.length = ps.length
  | [], [], _ => rfl
  | x :: xs, p :: ps, ⟨_, h⟩ => congrArg (· + 1) (InnAt.length h)
  | [], _ :: _, h => h.elim
  | _ :: _, [], h => h.elim
theorem Ofs.rests_len : ∀ os : Ofs, os.rests.length = os.len
  | .nil => rfl
  | .cons _ _ _ _ _ r os => congrArg (· + 1) (Ofs.rests_len os)
/-- the greatest depth, the sum of the sizes -/
theorem Ofs.sum_eq : ∀ os : Ofs, os.sum = (os.rests.map Pr.size).sum
  | .nil => rfl
  | .cons _ _ _ _ _ r os => by
    unfold Ofs.sum Ofs.rests
    rw [List.map_cons, List.sum_cons, Ofs.sum_eq os]
mutual
theorem Pr.depth_pos : ∀ p : Pr, 1 ≤ p.depth
  | .choice os => by
    unfold Pr.depth
    have := Ofs.depth_nn os
    omega
  | .new _ _ r => by
    unfold Pr.depth
    have := Pr.depth_pos r
    omega
  | .cond _ _ y n => by
    unfold Pr.depth
    have := Pr.depth_pos y
    have := Pr.depth_pos n
    omega
  | .call _ _ => by
    unfold Pr.depth
    omega
theorem Ofs.depth_nn : ∀ os : Ofs, 0 ≤ os.depth
  | .nil => by
    unfold Ofs.depth
    omega
  | .cons _ _ _ _ _ r os => by
    unfold Ofs.depth
    have := Pr.depth_pos r
    omega
end
theorem maxFrom_ge : ∀ (ys : List Int) (y : Int), maxFrom y ys = max y (maxFrom 0 ys) ∨ (y < 0)
  | [], y => by
    unfold maxFrom
    simp only [List.foldl_nil]
    omega
  | z :: zs, y => by
    have h1 := maxFrom_ge zs (max y z)
    have h2 := maxFrom_ge zs (max 0 z)
    unfold maxFrom at *
    simp only [List.foldl_cons]
    omega
theorem Ofs.depth_eq : ∀ os : Ofs, maxDef 0 (os.rests.map Pr.depth) = os.depth
  | .nil => rfl
  | .cons _ _ _ _ _ r os => by
    unfold Ofs.rests Ofs.depth
    rw [List.map_cons]
    show maxFrom r.depth (os.rests.map Pr.depth) = max r.depth os.depth
    have ih := Ofs.depth_eq os
    have hr := Pr.depth_pos r
    cases hr2 : os.rests.map Pr.depth with
    | nil =>
      rw [hr2] at ih
      have e0 : (0 : Int) = os.depth := ih
      unfold maxFrom
      simp only [List.foldl_nil]
      omega
    | cons y ys =>
      rw [hr2] at ih
      have e0 : maxFrom y ys = os.depth := ih
      have hy : 1 ≤ y := by
        have : y ∈ os.rests.map Pr.depth := by rw [hr2]; exact List.mem_cons_self
        obtain ⟨q, _, rfl⟩ := List.mem_map.mp this
        exact Pr.depth_pos q
      have h1 := maxFrom_ge ys y
      have h2 := maxFrom_ge ys (max r.depth y)
      show maxFrom (max r.depth y) ys = _
      omega
theorem Pr.depth_eq (p : Pr) : 1 + maxDef 0 (p.inner.map Pr.depth) = p.depth := by
  cases p with
  | choice os =>
    unfold Pr.inner Pr.depth
    rw [Ofs.depth_eq]
  | new n k r =>
    unfold Pr.depth
    rfl
  | cond l r y n =>
    unfold Pr.depth
    rfl
  | call n ops =>
    unfold Pr.depth
    rfl
def Pr.own : Pr → Int
  | .choice os => max 1 (os.len : Int)
  | _ => 1
theorem Pr.size_eq (p : Pr) : p.own + (p.inner.map Pr.size).sum = p.size := by
  cases p with
  | choice os =>
    unfold Pr.inner Pr.size Pr.own
    rw [Ofs.sum_eq]
  | new n k r =>
    unfold Pr.size Pr.own Pr.inner
    simp
  | cond l r y n =>
    unfold Pr.size Pr.own Pr.inner
    simp
  | call n ops =>
    unfold Pr.size Pr.own Pr.inner
    simp
theorem OfsAt.len {C : Addr} {H : Hp} : ∀ {os : Ofs} {ps : List V}, OfsAt C H ps os → ps.length = os.len
  | .nil, ps, h => by
    unfold OfsAt at h
    rw [h]
    rfl
  | .cons c s m op ns r os, ps, h => by
    unfold OfsAt at h
    obtain ⟨o, u, b, qs, h1, _, _, _, h5⟩ := h
    rw [h1]
    exact congrArg (· + 1) (OfsAt.len h5)
/-- the rests of the offers -/
theorem OfsAt.rests {C : Addr} {H : Hp} : ∀ {os : Ofs} {ps : List V}, OfsAt C H ps os → ∃ rs : List V, rs.length = ps.length ∧ InnAt C H rs os.rests ∧
    ∀ (i : Nat) (x : V), ps[i]? = some x → ∃ (o : Addr) (c : Str) (s m : Int) (op : Opd) (u : Addr) (y : V), x = .ref o ∧ rs[i]? = some y ∧ H o = some (.tup [.str c, .int s, .int m, op.v, .ref u, y])
  | .nil, ps, h => by
    unfold OfsAt at h
    subst h
    exact ⟨[], rfl, True.intro, fun i x hx => by simp at hx⟩
  | .cons c s m op ns r os, ps, h => by
    unfold OfsAt at h
    obtain ⟨o, u, b, qs, rfl, h2, h3, h4, h5⟩ := h
    obtain ⟨rs, k1, k2, k3⟩ := OfsAt.rests h5
    refine ⟨.ref b :: rs, congrArg (· + 1) k1, ⟨⟨b, rfl, h4⟩, k2⟩, fun i x hx => ?_⟩
    cases i with
    | zero =>
      have e : V.ref o = x := by simpa using hx
      subst e
      exact ⟨o, c, s, m, op, u, .ref b, rfl, rfl, h2⟩
    | succ i =>
      obtain ⟨o', c', s', m', op', u', y', z1, z2, z3⟩ := k3 i x (by simpa using hx)
      exact ⟨o', c', s', m', op', u', y', z1, by simpa using z2, z3⟩
/-- rs: what a process with these parts contains directly -/
def InnOf (C : Addr) (H : Hp) (ps rs : List V) : Pr → Prop
  | .choice os => rs.length = ps.length ∧ InnAt C H rs os.rests ∧
    ∀ (i : Nat) (x : V), ps[i]? = some x → ∃ (o : Addr) (c : Str) (s m : Int) (op : Opd) (u : Addr) (y : V), x = .ref o ∧ rs[i]? = some y ∧ H o = some (.tup [.str c, .int s, .int m, op.v, .ref u, y])
  | .new n k r => ∃ b, ps = [.str n, .int k, .ref b] ∧ rs = [.ref b] ∧ PrAt C H b r
  | .cond l r y n => ∃ b c, ps = [l.v, r.v, .ref b, .ref c] ∧ rs = [.ref b, .ref c] ∧ PrAt C H b y ∧ PrAt C H c n
  | .call n ops => ∃ u, ps = [.str n, .ref u] ∧ rs = [] ∧ H u = some (.tup (ops.map Opd.v))
theorem InnOf.ex {C : Addr} {H H' : Hp} {ps rs : List V} {p : Pr} (e : Ex H H') (h : InnOf C H ps rs p) : InnOf C H' ps rs p := by
  cases p with
  | choice os =>
    obtain ⟨h1, h2, h3⟩ := h
    refine ⟨h1, h2.ex e, fun i x hx => ?_⟩
    obtain ⟨o, c, s, m, op, u, y, z1, z2, z3⟩ := h3 i x hx
    exact ⟨o, c, s, m, op, u, y, z1, z2, e _ _ z3⟩
  | new n k r =>
    obtain ⟨b, h1, h2, h3⟩ := h
    exact ⟨b, h1, h2, h3.ex e⟩
  | cond l r y n =>
    obtain ⟨b, c, h1, h2, h3, h4⟩ := h
    exact ⟨b, c, h1, h2, h3.ex e, h4.ex e⟩
  | call n ops =>
    obtain ⟨u, h1, h2, h3⟩ := h
    exact ⟨u, h1, h2, e _ _ h3⟩
theorem PartsAt.inn {C : Addr} {H : Hp} {ps : List V} {p : Pr} (h : PartsAt C H ps p) : ∃ rs, InnOf C H ps rs p := by
  cases p with
  | choice os =>
    obtain ⟨rs, h1, h2, h3⟩ := OfsAt.rests h
    exact ⟨rs, h1, h2, h3⟩
  | new n k r =>
    obtain ⟨b, h1, h2⟩ := h
    exact ⟨[.ref b], b, h1, rfl, h2⟩
  | cond l r y n =>
    obtain ⟨b, c, h1, h2, h3⟩ := h
    exact ⟨[.ref b, .ref c], b, c, h1, rfl, h2, h3⟩
  | call n ops =>
    obtain ⟨u, h1, h2⟩ := h
    exact ⟨[], u, h1, rfl, h2⟩
theorem InnOf.at {C : Addr} {H : Hp} {ps rs : List V} {p : Pr} (h : InnOf C H ps rs p) : InnAt C H rs p.inner := by
  cases p with
  | choice os => exact h.2.1
  | new n k r =>
    obtain ⟨b, _, rfl, h3⟩ := h
    exact ⟨⟨b, rfl, h3⟩, True.intro⟩
  | cond l r y n =>
    obtain ⟨b, c, _, rfl, h3, h4⟩ := h
    exact ⟨⟨b, rfl, h3⟩, ⟨c, rfl, h4⟩, True.intro⟩
  | call n ops =>
    obtain ⟨u, _, rfl, _⟩ := h
    exact True.intro
theorem InnAt.at_ {C : Addr} {H : Hp} : ∀ {xs : List V} {ps : List Pr} {i : Nat} {x : V}, InnAt C H xs ps → xs[i]? = some x → ∃ a p, x = .ref a ∧ PrAt C H a p ∧ ps[i]? = some p
  | [], _, _, _, _, hx => by simp at hx
  | y :: xs, [], _, _, h, _ => h.elim
  | y :: xs, p :: ps, 0, x, ⟨⟨a, h1, h2⟩, h3⟩, hx => by
    have e : y = x := by simpa using hx
    subst e
    exact ⟨a, p, h1, h2, rfl⟩
  | y :: xs, p :: ps, i + 1, x, ⟨_, h3⟩, hx => by
    obtain ⟨b, q, k1, k2, k3⟩ := InnAt.at_ (i := i) h3 (by simpa using hx)
    exact ⟨b, q, k1, k2, by simpa using k3⟩
end Fs

set_option Elab.async false
set_option linter.all false
set_option maxRecDepth 100000
set_option maxHeartbeats 4000000
/-! An own error over ValueError, by a class between: its __init__ calls super().__init__ with a fixed text, then stores its one argument as the field field. -/
namespace FsB
open PySem PySem.W PySem.Calls PyProof.Rows PySem.HandSPX
abbrev eS : Scope := { kind := .function, names := [(PySem.Str.ofString "self", .local), (PySem.Str.ofString "field", .local), (PySem.Str.ofString "__class__", .free), (PySem.Str.ofString "super", .globalImplicit)], isGenerator := false, isCoroutine := false, more := [] }
abbrev eA (p1 p2 : Pos) : Arguments := { posonlyargs := [], args := [{ arg := "self", annotation := none, pos := p1 }, { arg := "field", annotation := none, pos := p2 }], vararg := none, kwonlyargs := [], kw_defaults := [], kwarg := none, defaults := [] }
abbrev eB (msg : Expr) (p0 p1 p2 p3 p4 p5 p6 p7 p8 : Pos) : List Stmt := [.Expr (.Call (.Attribute (.Call (.Name "super" p0) [] [] p1) "__init__" p2) [msg] [] p3) p4, .Assign [.Attribute (.Name "self" p5) "field" p6] (.Name "field" p7) p8]
/-- the message -/
abbrev eM (z : Str) (q0 : Pos) : Expr := .Constant (.str z) 0 q0
abbrev mroVE : List Value := [.type "ValueError", .type "Exception", .type "BaseException", .type "object"]
/-- what the written part says of the class at C, and of its __init__, at fI -/
structure ErrTxt (prog : Program) (K : Frag) (mg : Str → Option Value) (x : Str) (C fI : Addr) : Prop where
  gC : mg x = some (.ref C)
  cls : ∃ nm q N bs bm sn sub ab col dd k0 k1 k2 k3 k5, K.lookup C = some (excClassObj nm q C N bs bm true sn sub ab col dd k0 k1 k2 k3 k5 "ValueError.__new__") ∧ refsVE bm = true
  ei : excInitIn K C mroVE "ValueError.__new__" = true
  sa : findIn K (.ref C) "__setattr__" = some (some (.builtin "object.__setattr__"))
  noN : findIn K (.ref C) "field" = some none
  iC : findIn K (.ref C) "__init__" = some (some (.ref fI))
  tC : typeIn K (.ref fI) = some (.type "function")
  kC : keepIn K (.ref C) = true
  exC : subIn K (.ref C) (.type "BaseException") = some true
  veC : subIn K (.ref C) (.type "ValueError") = some true
  tyC : typeIn K (.ref C) = some (.type "type")
  slf : mroIn K C (.ref C) = some true
  sup : ks_superIn K C C "__init__" = some (some (.builtin "ValueError.__init__"))
  opq : nsIn K cStatics "thirdparty.any" = some none
  gs : mg "super" = none
  top : (prog.main.scope.names.lookup ("super" : Str)).isSome = false
  fn : ∃ (oc : Value) (od an : Option Addr) (kV doc pm ct : Value) (osl : Array (Option Value)) (qual : Str) (cda cc : Addr) (ccl cl : Value) (cdd cld : Option Addr) (ccs csl : Array (Option Value)) (vs : Array Value) (file : Str) (tf : Tok) (zM : Str) (p1 p2 q0 r0 r1 r2 r3 r4 r5 r6 r7 r8 : Pos),
    K.lookup fI = some ⟨oc, od, .func (ksFn "__init__" qual (eA p1 p2) (eB (eM zM q0) r0 r1 r2 r3 r4 r5 r6 r7 r8) eS .none kV doc pm an (.ref cda) ct cc), osl⟩ ∧ codeIn K (.ref cda) qual = true ∧
    K.lookup cda = some ⟨ccl, cdd, .fields vs, ccs⟩ ∧ vs[2]? = some (.str file tf) ∧ ((prog.main.file : Str) == file) = true ∧ K.lookup cc = some ⟨cl, cld, .cell (some (.ref C)), csl⟩ ∧ zM.length ≤ 1000 ∧ (r2.endLine == r3.line) = true
theorem call_line {o : Expr} {name : Str} {apos pos : Pos} {a : Expr} {env : Env} (hp : (apos.endLine == pos.line) = true) (hs : starEach [a] env = (false, eval a env) :: starEach [] env) : eval (.Call (.Attribute o name apos) [a] [] pos) env = (do
      let ov ← attributeBase o name env (eval o env)
      standAt apos.atName
      let (f, first) ← holding [ov] (getMethod ov name (do return (← importBound o env).getD true))
      callWith pos f first (backTo pos (starEach [a] env)) []) := by
  show (do
      let ov ← attributeBase o name env (eval o env)
      standAt apos.atName
      methodCall o name apos pos env ov 1 (backTo pos (starEach [a] env)) []) = _
  have e : methodCallForm 1 (backTo pos (starEach [a] env)) [] = true := by
    rw [hs]
    rfl
  unfold methodCall
  rw [e]
  unfold methodCallPos calleeOf
  rw [hp]
  simp only [Bool.not_true, Bool.false_or, if_true, pure_bind]
/-- what __init__ leaves of a fresh exception at x, over the heap h -/
structure BtEnd (h h' : Heap) (x C dx t1 : Addr) (v : Value) : Prop where
  keep : ∀ b o, h.get? b = some o → h'.get? b = some o
  obj : h'.get? x = some { cls := .ref C, dict := some dx, data := .fields #[.ref t1, .none, .none, .none, .bool false, .none] }
  dbig : h.objs.size ≤ dx
  dne : dx ≠ x
  ns : h'.Ns1 dx (fun y => if y = "field" then some v else none)
theorem str_len2 (a b : Str) : (a ++ b).length = a.length + b.length := by
  show (a.cps ++ b.cps).size = _
  rw [Array.size_append]
  rfl
theorem len1 (v : Value) : [v].length ≤ sizeLine := by
  rw [sizeLine_eq]
  exact (by decide : 1 ≤ 16777216)
section
variable {prog : Program} {w : World} {A : Around} {E : Value → Shared → Prop} {R : Result → Shared → Prop} {s : Shared} {K : Frag} {mg : Str → Option Value} {x0 : Str} {C fI : Addr}
theorem bt_init (T : ErrTxt prog K mg x0 C fI) {hp : Heap} {x t0 : Addr} {v : Value} (X : K.In hp) (G : hp.Ns mainGlobals mg) (Bl : ∃ mb, hp.Ns builtinsNs mb ∧ mb "super" = some (.type "super")) (hlim : s.heap.NoLimit)
    (k : ∀ b o, hp.get? b = some o → s.heap.get? b = some o) (hsz : hp.objs.size ≤ s.heap.objs.size) (hx : s.heap.get? x = some (excO C t0)) (hxn : hp.get? x = none) (hroom : A.depth < recursionLimit)
    (hq : ∀ h' tk' dx t1, BtEnd hp h' x C dx t1 v → R (.ok (.ret .none)) { s with heap := h', toks := tk' }) :
    codeAny (model prog w) A (.call (.ref fI) ⟨[.ref x, v], []⟩) R s := by
  obtain ⟨oc, od, an, kV, doc, pm, ct, osl, qual, cda, cc, ccl, cl, cdd, cld, ccs, csl, vs, file, tf, zM, p1, p2, q0, r0, r1, r2, r3, r4, r5, r6, r7, r8, ho, hcd, hcode, hvs, hfile, hcell, hM, hline⟩ := T.fn
  obtain ⟨nm, q, N, bs, bm, sn, sub, ab, col, dd, k0, k1, k2, k3, k5, hC, hbm⟩ := T.cls
  obtain ⟨mb, hb, hmb⟩ := Bl
  have hcl : clsIn K C = some { name := nm, bases := bs, mro := .ref C :: bm, ns := N, qualname := q, hasDict := true, slotNames := sn, subclasses := sub, abstract := ab, collection := col, hasDel := false } := by unfold clsIn; rw [hC] <;> rfl
  have Xs : K.In s.heap := X.keeps k
  have noc : ∀ y ∈ eS.names, y.2 ≠ .cell := by decide +kernel
  have locs : ∀ y ∈ [(("self" : Str), Value.ref x), ("field", v)], eS.names.lookup y.1 = some .local := fun y hy => by
    rcases List.mem_cons.mp hy with rfl | hy
    · rfl
    · rw [List.mem_singleton.mp hy]
      rfl
  refine ks_codeAny_call_defAt (body := eB (eM zM q0) r0 r1 r2 r3 r4 r5 r6 r7 r8) (binds := [("self", .ref x), ("field", v)]) hroom (Xs _ _ ho) rfl hlim (codeRec_of Xs hcd) rfl (BindsTo.of_eq (by first | rfl | with_unfolding_all rfl)) noc locs (fun h₁ hns hk₁ => ?_) rfl rfl rfl
  have Fr1 : Fr hp s.heap.objs.size h₁ (fun y => [(("self" : Str), Value.ref x), ("field", v)].reverse.lookup y) := ⟨hns, fun b o e => hk₁ b o (k b o e), hsz⟩
  have N1 : News hp s.heap.objs.size h₁ [(x, excObj C t0 none .none)] := fun p hp' => by
    rw [List.mem_singleton.mp hp']
    exact ⟨hk₁ _ _ hx, Nat.ne_of_lt (Heap.lt_size hx), hxn⟩
  show _root_.PySem.wpAt (model prog w) _ (.func _ (ksEnv qual eS s.heap.objs.size fI (.ref cda) cc)) (execs (eB (eM zM q0) r0 r1 r2 r3 r4 r5 r6 r7 r8) (ksEnv qual eS s.heap.objs.size fI (.ref cda) cc)) _ _ _
  refine ks_wpAt_execs_cons (ks_wpAt_Expr_any (ks_wpAt_MethodCall ?_ (call_line hline rfl)))
  generalize hE : (fun e s' => wpAny (model prog w) _ (leaving _ e) (fun x s'' => R (Except.error e) s'') (fun e' s'' => R (Except.error e') s'') s') = EE
  have X1 : K.In h₁ := X.keeps Fr1.keep
  -- super()
  refine ks_wpAt_super_base (env := ksEnv qual eS s.heap.objs.size fI (.ref cda) cc) rfl rfl rfl rfl (X1 _ _ ho) rfl rfl rfl (X1 _ _ hcode) rfl hvs hfile T.top ?_
  refine ks_loadName_global rfl rfl (loadGlobal_builtin (env := ksEnv qual eS s.heap.objs.size fI (.ref cda) cc) (G.keeps Fr1.keep) T.gs (hb.keeps Fr1.keep) hmb ⟨rfl, ?_⟩)
  refine wpAny_loadName_free rfl rfl rfl ⟨_, X1 _ _ hcell, rfl⟩ ?_
  refine wpAny_loadName_local (v := .ref x) rfl rfl hns rfl ?_
  refine ks_wpAny_isType_cls (X1 _ _ hC) rfl ⟨rfl, ?_⟩
  refine ks_wpAny_call_super (X1 _ _ hC) rfl (hk₁ _ _ hx) rfl (fun c z => by cases z) (looks_mroIn X1 T.slf) (fun h2 hso k2 => ?_)
  obtain ⟨F2, N2, l2⟩ := ks_newsPush (s := ⟨h₁, s.gens, s.drawn, s.toks + 2, s.os⟩) Fr1 N1 rfl hso k2
  -- its __init__, bound
  refine kxs_method kxs_ValueError F2 X N2 (List.mem_cons_self ..) (InstAt.of_exc0 (c2 := .none) (t := t0) N2 (List.mem_cons_of_mem _ (List.mem_cons_self ..))) T.opq T.sup T.veC rfl (fun u h3 F3 N3 l3 => ?_)
  refine kxs_callWith1 N3 (List.mem_cons_self ..) ?_ rfl rfl
  refine Calls.spliced_cons ?_
  show wpAny _ _ (eval (eM zM q0) (ksEnv qual eS s.heap.objs.size fI (.ref cda) cc)) _ _ _
  refine Calls.Constant_str ?_
  refine Calls.spliced_nil ⟨kxs_at N3 (List.mem_cons_self ..), ?_⟩
  have nx1 : h₁.objs.size ≠ x := fun z => Nat.lt_irrefl _ (z ▸ l2 _ (List.mem_cons_self ..) : x < x)
  have nx2 : u ≠ x := fun z => Nat.lt_irrefl _ (z ▸ l3 _ (List.mem_cons_of_mem _ (List.mem_cons_self ..)) : x < x)
  refine kxs_call F3 X N3 PySem.F.excBase_ValueError T.ei (List.mem_cons_self ..) (.tail nx2 (.tail nx1 (.head fun p hp' => by cases hp'))) (len1 _) (fun t' h4 F4 N4 l4 => ?_)
  -- self.field = field
  have X4 : K.In h4 := X.keeps F4.keep
  have hx4 : h4.get? x = some (excO C t') := (N4 (x, excObj C t' none .none) (List.mem_cons_of_mem _ (List.mem_cons_of_mem _ (List.mem_cons_of_mem _ (List.mem_cons_self ..))))).1
  refine wpAt_of_wpAny (wpAny_execs_cons (plainObj_wpAny_Assign_Attribute ?_))
  refine wpAny_Name (wpAny_loadName_local (v := v) rfl rfl F4.ns rfl ?_) rfl
  refine wpAny_Name (wpAny_loadName_local (v := .ref x) rfl rfl F4.ns rfl ?_) rfl
  refine set_plain X4 (ox := excO C t') (od := none) ⟨hx4, rfl, rfl, trivial⟩ T.sa ?_
  refine exc_osa X4 hx4 hcl (show refsVE (.ref C :: bm) = true from hbm) rfl T.noN (fun h5 tk5 dx k5 dn dne hx5 hn5 => ?_)
  have zz : s.heap.objs.size < h4.objs.size := F4.ns.lt
  exact wpAny_execs_nil (hq h5 tk5 dx t' ⟨fun b o e => k5 b o (fun z => by rw [z, hxn] at e; cases e) (F4.keep b o e), hx5, Nat.le_trans hsz (Nat.le_trans (Nat.le_of_lt zz) dn), dne, hn5⟩)
end
end FsB

set_option Elab.async false
set_option linter.all false
set_option maxRecDepth 100000
set_option maxHeartbeats 4000000
/-! Own errors as values: asked by isinstance, their fields read. -/
namespace FsV
open PySem PySem.W PySem.Calls PyProof.Rows
section
variable {P : Program} {w : World} {A : Around} {E : Value → Shared → Prop} {s : Shared} {K : Frag} {x D : Addr} {ox : Obj} {od : Option Obj}
theorem obj_class {nm : Str} {v g : Value} (h1 : (clsIn K D).isSome = true) (h2 : findIn K (.ref D) nm = some (some v)) (h3 : specialIn K v "__get__" = some (some g)) (h4 : takesIn K v = some true) : findObj K D od nm = some (.bind g v) := by
  cases od with
  | none => exact findObj_dataN h1 h2 h3 h4
  | some o => exact findObj_data h1 h2 h3 h4
/-- x.__class__, whatever its dict -/
theorem err_class {Q : Option Value → Shared → Prop} (C : L2.ExcC K D) (X : K.In s.heap) (I : InstAt s.heap x ox D od) (q : Q (some (.ref D)) { s with toks := s.toks + 1 }) : wpAny (model P w) A (getAttr? (.ref x) "__class__") Q E s := by
  have hc : (clsIn K D).isSome = true := by
    obtain ⟨c, e, _⟩ := any_some C.hd
    rw [e]
    rfl
  have found := obj_class (od := od) hc C.ha C.hn C.ht
  obtain ⟨h0, gs, dr, tk, os⟩ := s
  have T0 := I.type (M := model P w)
  have G1 := looks_findIn (M := model P w) X C.hg
  have G2 := looks_findIn (M := model P w) X C.hk
  have G3 := looks_find (M := model P w) X I found
  have isE : Looks (model P w) h0 (isInstance (.ref x) (.type "BaseException")) true := T0.andThen (looks_subIn X C.hs)
  have b1 : (false && onTheHeap (Value.builtin "BaseException.__getattribute__")) = false := by decide
  have b2 : (onTheHeap (Value.ref D) && Value.builtin "BaseException.__getattribute__" == Value.builtin "object.__getattribute__") = false := by
    rw [show (Value.builtin "BaseException.__getattribute__" == Value.builtin "object.__getattribute__") = false by decide +kernel, Bool.and_false]
  unfold getAttr? getAttrBy? getAttrBy
  refine wpAny_bind (wpAny_mkText ?_)
  refine wpAny_bind (wpAny_attempt (wpAny_holding ?_))
  refine wpAny_bind (T0.at (wpAny_bind (G1.at ?_)))
  show wpAny (model P w) A (if (onTheHeap (Value.ref D) && Value.builtin "BaseException.__getattribute__" == Value.builtin "object.__getattribute__") = true then _ else _) _ _ _
  rw [b2, if_neg (by decide)]
  unfold getAttrByItsOwn hookBefore
  refine wpAny_bind ?_
  rw [if_pos (by rfl : onTheHeap (Value.ref D) = true)]
  refine G2.at (wpAny_bind (wpAny_attempt (wpAny_holding ?_)))
  unfold callGetattribute
  rw [b1, if_neg (by decide)]
  unfold boundAndCalled
  rw [F.excAttr_ValueError.ga.bind (.ref x)]
  refine wpAny_bind (wpAny_pure ?_)
  show wpAny (model P w) A (call (.builtin "BaseException.__getattribute__") [.ref x, .str "__class__" tk]) _ _ _
  refine wpAny_call (codeAny_call_builtin F.excAttr_ValueError.ga.plain F.entry_bexc_ga ?_)
  refine @check_slot (model P w) _ _ ⟨h0, gs, dr, tk + 1, os⟩ "BaseException.__getattribute__" "BaseException" "__getattribute__" (.ref x) [.str "__class__" tk] [] _ (by decide +kernel) (by decide +kernel) isE (F.args_bexc_ga (.ref x) (.str "__class__" tk)) ?_
  unfold Builtin.«object.__getattribute__»
  refine wpAny_bind (wpAny_of_eq (a := ((Value.ref x : Value), [Value.str "__class__" tk])) (by first | rfl | (simp only [slotArgs]; rfl)) ?_)
  refine wpAny_bind (wpAny_pure (wpAny_bind (T0.at (wpAny_bind (G3.at ?_)))))
  show wpAny _ _ (holding [Value.builtin "object.__class__"] (call (.builtin "getset_descriptor.__get__") [.builtin "object.__class__", .ref x, .ref D]) >>= ret) _ _ _
  refine wpAny_bind (wpAny_holding (wpAny_call (class_get (s := ⟨h0, gs, dr, tk + 1, os⟩) (ox := ox) (od := od) X I C.hm ?_)))
  refine wpAny_pure ?_
  show wpAny _ _ (handedOut (.ref D)) _ _ _
  rw [handedOut_of (by rfl : handedIn (.ref D) = true)]
  first
    | exact wpAny_pure (wpAny_pure q)
    | exact wpAny_pure q
    | exact wpAny_pure (wpAny_bind (wpAny_pure (wpAny_pure q)))
theorem kitx_err (C : L2.ExcC K D) : KitX K (.ref x) (.ref D) (fun h => ∃ ox od, InstAt h x ox D od) where
  ty := fun M h _ ⟨_, _, I⟩ => I.type
  it := fun M h Y _ => by
    obtain ⟨c, e, _⟩ := any_some C.hd
    unfold clsIn at e
    split at e
    · rename_i _ _ _ _ at_
      intro _ _ _ _ kp q
      unfold isType loadHead
      exact wpAny_bind (wpAny_loadPart (kp _ _ (Y _ _ at_)) (wpAny_pure q))
    · cases e
  ne := fun h tp dd its n sl Y htp => (handS_kitx_exc (x := x) (ox := default) C.hg C.hk C.hs C.hd C.ha C.hn C.ht C.hm).ne h tp dd its n sl Y htp
  ca := fun Y ⟨_, _, I⟩ q => err_class C Y I q
end
end FsV
namespace FsV
open PySem PySem.Spec PyProof.Rows L2
/-- at a stands an error of the class at C -/
def IsErr (H : Hp) (a C : Addr) : Prop := H a = some (ExO (.ref C) a) ∨ ∃ d fs, H a = some (exo a C (some d)) ∧ H d = some (exd d fs)
theorem isErr_inst {P : Program} {w : World} {H : Hp} {h : Heap} {a C : Addr} (ok : HOk P w H h) (e : IsErr H a C) : ∃ ox od, PySem.W.InstAt h a ox C od := by
  rcases e with e | ⟨d, fs, e, ed⟩
  · obtain ⟨⟨oe, vs, g, z, dt, _⟩, _⟩ := (ok a _ e : ObjOk P w H h a (ExO (.ref C) a))
    obtain ⟨oc, od, oda, osl⟩ := oe
    obtain ⟨z1, z2⟩ := z
    dsimp only at z1 z2 dt
    subst z1 z2 dt
    exact ⟨_, none, g, rfl, rfl, trivial⟩
  · obtain ⟨t1, g⟩ := exo_at ok e
    obtain ⟨mA, ⟨o, es, ep, ho, hr⟩, _⟩ := exd_at ok ed
    exact ⟨_, some o, g, rfl, rfl, ho⟩
/-- isinstance(e, c), e an error as a value -/
def rIsV (K : PySem.W.Frag) : List V → Hp → VK → Prop := fun xs H Q => ∃ (a C : Addr) (c : V) (cv : Value) (b : Bool), xs = [.ref a, c] ∧ IsErr H a C ∧ ExcC K C ∧ (∀ u, RelV c u → u = cv) ∧ PySem.W.kitOne K (.ref C) cv = some b ∧ Q (.bl b) H
section
variable {X : Cx} {pos : Pos}
theorem call_isV : CallR X (.builtin "isinstance") (rIsV X.K) := by
  intro pins s σ H xs us Q I r h
  obtain ⟨a, C, c, cv, b, rfl, ea, ec, hcv, hk, q⟩ := h
  cases r with
  | cons rx rr =>
    cases rr with
    | cons rt rr =>
      cases rr
      cases rx
      obtain rfl := hcv _ rt
      exact PySem.W.kia_one (kitx_err ec) I.kIn (isErr_inst I.hok ea) hk (fun z => nomatch z) fun tk => ⟨.bl b, H, I.kept (t' := tk) fun _ _ z => z, rfl, q⟩
/-- e.f, e an error as a value -/
def tErrF (K : PySem.W.Frag) (f : Str) (te : TE) : TE := fun σ H Q => te σ H fun x H1 => ∃ (a C d : Addr) (fs : List (Str × V)) (v : V), x = .ref a ∧ H1 a = some (exo a C (some d)) ∧ H1 d = some (exd d fs) ∧ XfC K C ∧ PySem.W.findIn K (.ref C) f = some none ∧ fs.lookup f = some v ∧ Q v H1
theorem pe_errF {e : Expr} {te : TE} {n : Str} (he : PE X e te) (hb : attributeBase e n X.env (eval e X.env) = eval e X.env := by rfl) : PE X (.Attribute e n pos) (tErrF X.K n te) := by
  refine ⟨fun pins s σ H Q I h => ?_⟩
  refine attr_of hb (thn (he.run pins s σ H _ I h) fun u s1 hh => ?_)
  obtain ⟨x, H1, I1, rx, a, C, d, fs, v, rfl, ea, ed, T, hno, l, q⟩ := hh
  obtain rfl : u = Value.ref a := rx
  obtain ⟨t1, g⟩ := exo_at I1.hok ea
  obtain ⟨mA, hns, rel⟩ := exd_at I1.hok ed
  obtain ⟨od, ho, hl⟩ := lookIn_ns hns
  obtain ⟨u, hu, ru⟩ := RelO.some_of (v := v) (o := mA n) (by rw [← l]; exact rel n)
  have J : PySem.W.InstAt s1.heap a _ C (some od) := ⟨g, rfl, rfl, ho⟩
  exact HandSPX.exc_get I1.kIn J T.ga T.gg T.exC (PySem.W.findObj_own T.hdC hno rfl (by rw [hl, hu])) (handed_of ru) ⟨v, H1, I1.tok _, ru, q⟩
/-- X(), an own error without an own __init__ -/
theorem pe_err0 {C : Addr} {bmB : List Value} {B newId initId : String} {x : Str} {p : Pos} (F : ExcBaseFacts B newId initId bmB) (q : PySem.W.excIn X.K C bmB newId = true) (gC : X.mg x = some (.ref C)) (kC : PySem.W.keepIn X.K (.ref C) = true) (hg : Gl X x)
    (hdb : (x == ("__debug__" : Str)) = false := by decide) : PE X (.Call (.Name x p) [] [] pos) (fun σ H Q => ∀ a, H a = none → Q (.ref a) (upd H a (ExO (.ref C) a))) := by
  refine ⟨fun pins s σ H Q I h => ?_⟩
  refine wpAny_Call_Name_kw (ld_glob I hg gC ?_ hdb)
  refine PySem.W.callWith_K0 I.kIn kC ?_
  show wpAny (model X.prog X.w) X.A (call (.ref C) []) _ _ _
  obtain ⟨bm, N, nm, qn, bs, hdct, sn, sub, ab, col, dd, k0, k1, k2, k3, k5, mN, hC, hN, hni, T⟩ := exc_obj I.kIn q
  refine wpAny_call_exc_subT F T hC hN hni (fun h' a made => ?_) (by show 0 ≤ sizeLine; exact Nat.zero_le _)
  have fresh : H a = none := I.hok.gone made.new
  obtain ⟨t, at_, _, _⟩ := made.there
  exact ⟨.ref a, upd H a (ExO (.ref C) a), I.laidN made.keeps made.new fresh (exO_ok at_ ⟨rfl, rfl⟩ rfl rfl rfl (by show 4 < 6; decide)), rfl, h a fresh⟩
end
end FsV

set_option Elab.async false
set_option linter.all false
set_option maxRecDepth 100000
set_option maxHeartbeats 4000000
/-! An own error over ValueError, by a class between: its __init__ calls super().__init__ with a fixed text, then stores its one argument as the field field. -/
namespace FsBfield
open PySem PySem.W PySem.Calls PyProof.Rows PySem.HandSPX
abbrev eS : Scope := { kind := .function, names := [(PySem.Str.ofString "self", .local), (PySem.Str.ofString "field", .local), (PySem.Str.ofString "__class__", .free), (PySem.Str.ofString "super", .globalImplicit)], isGenerator := false, isCoroutine := false, more := [] }
abbrev eA (p1 p2 : Pos) : Arguments := { posonlyargs := [], args := [{ arg := "self", annotation := none, pos := p1 }, { arg := "field", annotation := none, pos := p2 }], vararg := none, kwonlyargs := [], kw_defaults := [], kwarg := none, defaults := [] }
abbrev eB (msg : Expr) (p0 p1 p2 p3 p4 p5 p6 p7 p8 : Pos) : List Stmt := [.Expr (.Call (.Attribute (.Call (.Name "super" p0) [] [] p1) "__init__" p2) [msg] [] p3) p4, .Assign [.Attribute (.Name "self" p5) "field" p6] (.Name "field" p7) p8]
/-- the message -/
abbrev eM (z : Str) (q0 : Pos) : Expr := .Constant (.str z) 0 q0
abbrev mroVE : List Value := [.type "ValueError", .type "Exception", .type "BaseException", .type "object"]
/-- what the written part says of the class at C, and of its __init__, at fI -/
structure ErrTxt (prog : Program) (K : Frag) (mg : Str → Option Value) (x : Str) (C fI : Addr) : Prop where
  gC : mg x = some (.ref C)
  cls : ∃ nm q N bs bm sn sub ab col dd k0 k1 k2 k3 k5, K.lookup C = some (excClassObj nm q C N bs bm true sn sub ab col dd k0 k1 k2 k3 k5 "ValueError.__new__") ∧ refsVE bm = true
  ei : excInitIn K C mroVE "ValueError.__new__" = true
  sa : findIn K (.ref C) "__setattr__" = some (some (.builtin "object.__setattr__"))
  noN : findIn K (.ref C) "field" = some none
  iC : findIn K (.ref C) "__init__" = some (some (.ref fI))
  tC : typeIn K (.ref fI) = some (.type "function")
  kC : keepIn K (.ref C) = true
  exC : subIn K (.ref C) (.type "BaseException") = some true
  veC : subIn K (.ref C) (.type "ValueError") = some true
  tyC : typeIn K (.ref C) = some (.type "type")
  slf : mroIn K C (.ref C) = some true
  sup : ks_superIn K C C "__init__" = some (some (.builtin "ValueError.__init__"))
  opq : nsIn K cStatics "thirdparty.any" = some none
  gs : mg "super" = none
  top : (prog.main.scope.names.lookup ("super" : Str)).isSome = false
  fn : ∃ (oc : Value) (od an : Option Addr) (kV doc pm ct : Value) (osl : Array (Option Value)) (qual : Str) (cda cc : Addr) (ccl cl : Value) (cdd cld : Option Addr) (ccs csl : Array (Option Value)) (vs : Array Value) (file : Str) (tf : Tok) (zM : Str) (p1 p2 q0 r0 r1 r2 r3 r4 r5 r6 r7 r8 : Pos),
    K.lookup fI = some ⟨oc, od, .func (ksFn "__init__" qual (eA p1 p2) (eB (eM zM q0) r0 r1 r2 r3 r4 r5 r6 r7 r8) eS .none kV doc pm an (.ref cda) ct cc), osl⟩ ∧ codeIn K (.ref cda) qual = true ∧
    K.lookup cda = some ⟨ccl, cdd, .fields vs, ccs⟩ ∧ vs[2]? = some (.str file tf) ∧ ((prog.main.file : Str) == file) = true ∧ K.lookup cc = some ⟨cl, cld, .cell (some (.ref C)), csl⟩ ∧ zM.length ≤ 1000 ∧ (r2.endLine == r3.line) = true
theorem call_line {o : Expr} {name : Str} {apos pos : Pos} {a : Expr} {env : Env} (hp : (apos.endLine == pos.line) = true) (hs : starEach [a] env = (false, eval a env) :: starEach [] env) : eval (.Call (.Attribute o name apos) [a] [] pos) env = (do
      let ov ← attributeBase o name env (eval o env)
      standAt apos.atName
      let (f, first) ← holding [ov] (getMethod ov name (do return (← importBound o env).getD true))
      callWith pos f first (backTo pos (starEach [a] env)) []) := by
  show (do
      let ov ← attributeBase o name env (eval o env)
      standAt apos.atName
      methodCall o name apos pos env ov 1 (backTo pos (starEach [a] env)) []) = _
  have e : methodCallForm 1 (backTo pos (starEach [a] env)) [] = true := by
    rw [hs]
    rfl
  unfold methodCall
  rw [e]
  unfold methodCallPos calleeOf
  rw [hp]
  simp only [Bool.not_true, Bool.false_or, if_true, pure_bind]
/-- what __init__ leaves of a fresh exception at x, over the heap h -/
structure BtEnd (h h' : Heap) (x C dx t1 : Addr) (v : Value) : Prop where
  keep : ∀ b o, h.get? b = some o → h'.get? b = some o
  obj : h'.get? x = some { cls := .ref C, dict := some dx, data := .fields #[.ref t1, .none, .none, .none, .bool false, .none] }
  dbig : h.objs.size ≤ dx
  dne : dx ≠ x
  ns : h'.Ns1 dx (fun y => if y = "field" then some v else none)
theorem str_len2 (a b : Str) : (a ++ b).length = a.length + b.length := by
  show (a.cps ++ b.cps).size = _
  rw [Array.size_append]
  rfl
theorem len1 (v : Value) : [v].length ≤ sizeLine := by
  rw [sizeLine_eq]
  exact (by decide : 1 ≤ 16777216)
section
variable {prog : Program} {w : World} {A : Around} {E : Value → Shared → Prop} {R : Result → Shared → Prop} {s : Shared} {K : Frag} {mg : Str → Option Value} {x0 : Str} {C fI : Addr}
theorem bt_init (T : ErrTxt prog K mg x0 C fI) {hp : Heap} {x t0 : Addr} {v : Value} (X : K.In hp) (G : hp.Ns mainGlobals mg) (Bl : ∃ mb, hp.Ns builtinsNs mb ∧ mb "super" = some (.type "super")) (hlim : s.heap.NoLimit)
    (k : ∀ b o, hp.get? b = some o → s.heap.get? b = some o) (hsz : hp.objs.size ≤ s.heap.objs.size) (hx : s.heap.get? x = some (excO C t0)) (hxn : hp.get? x = none) (hroom : A.depth < recursionLimit)
    (hq : ∀ h' tk' dx t1, BtEnd hp h' x C dx t1 v → R (.ok (.ret .none)) { s with heap := h', toks := tk' }) :
    codeAny (model prog w) A (.call (.ref fI) ⟨[.ref x, v], []⟩) R s := by
  obtain ⟨oc, od, an, kV, doc, pm, ct, osl, qual, cda, cc, ccl, cl, cdd, cld, ccs, csl, vs, file, tf, zM, p1, p2, q0, r0, r1, r2, r3, r4, r5, r6, r7, r8, ho, hcd, hcode, hvs, hfile, hcell, hM, hline⟩ := T.fn
  obtain ⟨nm, q, N, bs, bm, sn, sub, ab, col, dd, k0, k1, k2, k3, k5, hC, hbm⟩ := T.cls
  obtain ⟨mb, hb, hmb⟩ := Bl
  have hcl : clsIn K C = some { name := nm, bases := bs, mro := .ref C :: bm, ns := N, qualname := q, hasDict := true, slotNames := sn, subclasses := sub, abstract := ab, collection := col, hasDel := false } := by unfold clsIn; rw [hC] <;> rfl
  have Xs : K.In s.heap := X.keeps k
  have noc : ∀ y ∈ eS.names, y.2 ≠ .cell := by decide +kernel
  have locs : ∀ y ∈ [(("self" : Str), Value.ref x), ("field", v)], eS.names.lookup y.1 = some .local := fun y hy => by
    rcases List.mem_cons.mp hy with rfl | hy
    · rfl
    · rw [List.mem_singleton.mp hy]
      rfl
  refine ks_codeAny_call_defAt (body := eB (eM zM q0) r0 r1 r2 r3 r4 r5 r6 r7 r8) (binds := [("self", .ref x), ("field", v)]) hroom (Xs _ _ ho) rfl hlim (codeRec_of Xs hcd) rfl (BindsTo.of_eq (by first | rfl | with_unfolding_all rfl)) noc locs (fun h₁ hns hk₁ => ?_) rfl rfl rfl
  have Fr1 : Fr hp s.heap.objs.size h₁ (fun y => [(("self" : Str), Value.ref x), ("field", v)].reverse.lookup y) := ⟨hns, fun b o e => hk₁ b o (k b o e), hsz⟩
  have N1 : News hp s.heap.objs.size h₁ [(x, excObj C t0 none .none)] := fun p hp' => by
    rw [List.mem_singleton.mp hp']
    exact ⟨hk₁ _ _ hx, Nat.ne_of_lt (Heap.lt_size hx), hxn⟩
  show _root_.PySem.wpAt (model prog w) _ (.func _ (ksEnv qual eS s.heap.objs.size fI (.ref cda) cc)) (execs (eB (eM zM q0) r0 r1 r2 r3 r4 r5 r6 r7 r8) (ksEnv qual eS s.heap.objs.size fI (.ref cda) cc)) _ _ _
  refine ks_wpAt_execs_cons (ks_wpAt_Expr_any (ks_wpAt_MethodCall ?_ (call_line hline rfl)))
  generalize hE : (fun e s' => wpAny (model prog w) _ (leaving _ e) (fun x s'' => R (Except.error e) s'') (fun e' s'' => R (Except.error e') s'') s') = EE
  have X1 : K.In h₁ := X.keeps Fr1.keep
  -- super()
  refine ks_wpAt_super_base (env := ksEnv qual eS s.heap.objs.size fI (.ref cda) cc) rfl rfl rfl rfl (X1 _ _ ho) rfl rfl rfl (X1 _ _ hcode) rfl hvs hfile T.top ?_
  refine ks_loadName_global rfl rfl (loadGlobal_builtin (env := ksEnv qual eS s.heap.objs.size fI (.ref cda) cc) (G.keeps Fr1.keep) T.gs (hb.keeps Fr1.keep) hmb ⟨rfl, ?_⟩)
  refine wpAny_loadName_free rfl rfl rfl ⟨_, X1 _ _ hcell, rfl⟩ ?_
  refine wpAny_loadName_local (v := .ref x) rfl rfl hns rfl ?_
  refine ks_wpAny_isType_cls (X1 _ _ hC) rfl ⟨rfl, ?_⟩
  refine ks_wpAny_call_super (X1 _ _ hC) rfl (hk₁ _ _ hx) rfl (fun c z => by cases z) (looks_mroIn X1 T.slf) (fun h2 hso k2 => ?_)
  obtain ⟨F2, N2, l2⟩ := ks_newsPush (s := ⟨h₁, s.gens, s.drawn, s.toks + 2, s.os⟩) Fr1 N1 rfl hso k2
  -- its __init__, bound
  refine kxs_method kxs_ValueError F2 X N2 (List.mem_cons_self ..) (InstAt.of_exc0 (c2 := .none) (t := t0) N2 (List.mem_cons_of_mem _ (List.mem_cons_self ..))) T.opq T.sup T.veC rfl (fun u h3 F3 N3 l3 => ?_)
  refine kxs_callWith1 N3 (List.mem_cons_self ..) ?_ rfl rfl
  refine Calls.spliced_cons ?_
  show wpAny _ _ (eval (eM zM q0) (ksEnv qual eS s.heap.objs.size fI (.ref cda) cc)) _ _ _
  refine Calls.Constant_str ?_
  refine Calls.spliced_nil ⟨kxs_at N3 (List.mem_cons_self ..), ?_⟩
  have nx1 : h₁.objs.size ≠ x := fun z => Nat.lt_irrefl _ (z ▸ l2 _ (List.mem_cons_self ..) : x < x)
  have nx2 : u ≠ x := fun z => Nat.lt_irrefl _ (z ▸ l3 _ (List.mem_cons_of_mem _ (List.mem_cons_self ..)) : x < x)
  refine kxs_call F3 X N3 PySem.F.excBase_ValueError T.ei (List.mem_cons_self ..) (.tail nx2 (.tail nx1 (.head fun p hp' => by cases hp'))) (len1 _) (fun t' h4 F4 N4 l4 => ?_)
  -- self.field = field
  have X4 : K.In h4 := X.keeps F4.keep
  have hx4 : h4.get? x = some (excO C t') := (N4 (x, excObj C t' none .none) (List.mem_cons_of_mem _ (List.mem_cons_of_mem _ (List.mem_cons_of_mem _ (List.mem_cons_self ..))))).1
  refine wpAt_of_wpAny (wpAny_execs_cons (plainObj_wpAny_Assign_Attribute ?_))
  refine wpAny_Name (wpAny_loadName_local (v := v) rfl rfl F4.ns rfl ?_) rfl
  refine wpAny_Name (wpAny_loadName_local (v := .ref x) rfl rfl F4.ns rfl ?_) rfl
  refine set_plain X4 (ox := excO C t') (od := none) ⟨hx4, rfl, rfl, trivial⟩ T.sa ?_
  refine exc_osa X4 hx4 hcl (show refsVE (.ref C :: bm) = true from hbm) rfl T.noN (fun h5 tk5 dx k5 dn dne hx5 hn5 => ?_)
  have zz : s.heap.objs.size < h4.objs.size := F4.ns.lt
  exact wpAny_execs_nil (hq h5 tk5 dx t' ⟨fun b o e => k5 b o (fun z => by rw [z, hxn] at e; cases e) (F4.keep b o e), hx5, Nat.le_trans hsz (Nat.le_trans (Nat.le_of_lt zz) dn), dne, hn5⟩)
end
/-- a made one -/
structure BtMade (h h' : Heap) (e C d : Addr) (v : Value) : Prop where
  keep : ∀ b o, h.get? b = some o → h'.get? b = some o
  big : h.objs.size ≤ e
  obj : ∃ t1 : Addr, h'.get? e = some { cls := .ref C, dict := some d, data := .fields #[.ref t1, .none, .none, .none, .bool false, .none] }
  dbig : h.objs.size ≤ d
  dne : d ≠ e
  ns : h'.Ns1 d (fun y => if y = "field" then some v else none)
section
variable {prog : Program} {w : World} {A : Around} {R : Result → Shared → Prop} {s : Shared} {K : Frag} {mg : Str → Option Value} {x0 : Str} {C fI : Addr}
theorem bt_made (T : ErrTxt prog K mg x0 C fI) {v : Value} (X : K.In s.heap) (G : s.heap.Ns mainGlobals mg) (Bl : ∃ mb, s.heap.Ns builtinsNs mb ∧ mb "super" = some (.type "super")) (hlim : s.heap.NoLimit) (hroom : A.depth + 1 < recursionLimit)
    (hq : ∀ h' tk' e d, BtMade s.heap h' e C d v → R (.ok (.ret (.ref e))) { s with heap := h', toks := tk' }) : codeAny (model prog w) A (.call (.ref C) ⟨[v], []⟩) R s := by
  obtain ⟨nm, q, N, bs, bm, sn, sub, ab, col, dd, k0, k1, k2, k3, k5, hC, hbm⟩ := T.cls
  obtain ⟨g0, gs, dr, t, os⟩ := s
  let g2 : Heap := (g0.push (kdv_tup [v])).push (excO C g0.objs.size)
  have up : ∀ b o, g0.get? b = some o → g2.get? b = some o := fun b o e => Heap.get?_push_of_some _ (Heap.get?_push_of_some _ e)
  have at1 : g2.get? (g0.objs.size + 1) = some (excO C g0.objs.size) := by
    show ((g0.push (kdv_tup [v])).push (excO C g0.objs.size)).get? (g0.objs.size + 1) = _
    heap_get
  have sz2 : g2.objs.size = g0.objs.size + 1 + 1 := by
    show ((g0.push (kdv_tup [v])).push (excO C g0.objs.size)).objs.size = _
    rw [Heap.size_push, Heap.size_push]
  have free1 : g0.get? (g0.objs.size + 1) = none := by
    cases e : g0.get? (g0.objs.size + 1) with
    | none => rfl
    | some o => exact absurd (Nat.lt_of_succ_lt (Heap.lt_size e)) (Nat.lt_irrefl _)
  refine call_own F.excBase_ValueError (fun Y => refsVE_contains Y bm hbm) (X _ _ hC) (looks_findIn X T.iC) (fun self => bind_fn X self T.tC) (len1 _) ?_
  refine bt_init (s := ⟨g2, gs, dr, t, os⟩) (hp := g0) T X G Bl (hlim.keeps up) up (by show g0.objs.size ≤ g2.objs.size; omega) at1 free1 hroom fun h' t' dx t1 ⟨k, ho, dbig, dne, hns⟩ => ?_
  exact ⟨rfl, hq h' t' (g0.objs.size + 1) dx ⟨k, Nat.le_succ _, ⟨t1, ho⟩, dbig, dne, hns⟩⟩
end
end FsBfield
namespace FsBfield
open PySem PySem.Spec PyProof.Rows L2
theorem relO_one {v : V} {u : Value} (r : RelV v u) (g : Str) : RelO (List.lookup g [(("field" : Str), v)]) (if g = "field" then some u else none) := by
  by_cases h : g = "field"
  · rw [h, if_pos rfl, show List.lookup ("field" : Str) [(("field" : Str), v)] = some v by simp [List.lookup]]
    exact r
  · rw [if_neg h, show List.lookup g [(("field" : Str), v)] = none by simp [List.lookup, show (g == "field") = false by simpa using h]]
    trivial
/-- X(v), its one field v -/
def tNew (C : Addr) (te : TE) : TE := fun σ H Q => te σ H fun v H1 => ∀ a d, H1 a = none → H1 d = none → d ≠ a → Q (.ref a) (upd (upd H1 a (exo a C (some d))) d (exd d [("field", v)]))
theorem pe_new {X : Cx} {C fI : Addr} {x : Str} {e : Expr} {te : TE} {p pos : Pos} (T : ErrTxt X.prog X.K X.mg x C fI) (hr : Room 2 X.A) (he : PE X e te) (hg : Gl X x) (hdb : (x == ("__debug__" : Str)) = false := by decide)
    (hs : starEach [e] X.env = (false, eval e X.env) :: starEach [] X.env := by rfl) (hpl : (backTo pos (starEach [] X.env)).any (·.1) = false := by rfl) : PE X (.Call (.Name x p) [e] [] pos) (tNew C te) := by
  refine ⟨fun pins s σ H Q I h => ?_⟩
  refine wpAny_Call_Name_kw (ld_glob I hg T.gC ?_ hdb)
  refine PySem.W.callWith_K (h₀ := X.base) I.ok.mod.kin T.kC ?_ hs hpl
  rw [hs]
  refine Calls.spliced_cons (thn (he.run pins s σ H _ I h) fun u s1 ⟨v, H1, I1, r1, q1⟩ => ?_)
  refine Calls.spliced_nil ⟨I1.kIn, ?_⟩
  show wpAny _ _ (call (.ref C) [u]) _ _ _
  have lim := I1.nolimit
  obtain ⟨mb, b1, b2⟩ := I1.ok.mod.blt
  have gl : s1.heap.Ns mainGlobals X.mg := I1.ok.mod.glob.keeps I1.bk
  have bl : ∃ mb, s1.heap.Ns builtinsNs mb ∧ mb "super" = some (.type "super") := ⟨mb, b1.keeps I1.bk, (b2 _ (by decide)).trans Boot.«super»⟩
  obtain ⟨g0, gs, dr, t, os⟩ := s1
  refine wpAny_call (bt_made T I1.kIn gl bl lim (by have := hr.dp; omega) fun h' t' a d M => ?_)
  obtain ⟨t1, ho⟩ := M.obj
  obtain ⟨G, ge1, ge2⟩ := restrict h' fun b => decide (b ≠ d)
  have same : ∀ b, b ≠ d → G.get? b = h'.get? b := fun b hb => ge1 b (decide_eq_true hb)
  have gone : G.get? d = none := ge2 d (by simp)
  have old : ∀ b o, g0.get? b = some o → G.get? b = some o := fun b o z => (same b (Nat.ne_of_lt (Nat.lt_of_lt_of_le (Heap.lt_size z) M.dbig))).trans (M.keep b o z)
  have na := I1.hok.fresh M.big
  have nd := I1.hok.fresh M.dbig
  have I2 : Inv X pins σ (upd H1 a (exo a C (some d))) ⟨G, gs, dr, t', os⟩ := I1.laid (t' := t') old M.big (exo_ok ((same a (Ne.symm M.dne)).trans ho))
  have I3 := I2.laidN (h' := h') (a := d) (o := exd d [("field", v)]) (t' := t') (fun b o z => by
    by_cases hb : b = d
    · rw [hb, gone] at z
      cases z
    · exact (same b hb).symm.trans z) gone (by rw [upd_ne M.dne]; exact nd) (exd_ok M.ns (relO_one r1))
  exact ⟨.ref a, _, I3, rfl, q1 a d na nd M.dne⟩
end FsBfield

set_option Elab.async false
set_option linter.all false
set_option maxRecDepth 100000
set_option maxHeartbeats 4000000
/-! An own error over ValueError, by a class between: its __init__ calls super().__init__ with a fixed text, then stores its one argument as the field line. -/
namespace FsBline
open PySem PySem.W PySem.Calls PyProof.Rows PySem.HandSPX
abbrev eS : Scope := { kind := .function, names := [(PySem.Str.ofString "self", .local), (PySem.Str.ofString "line", .local), (PySem.Str.ofString "__class__", .free), (PySem.Str.ofString "super", .globalImplicit)], isGenerator := false, isCoroutine := false, more := [] }
abbrev eA (p1 p2 : Pos) : Arguments := { posonlyargs := [], args := [{ arg := "self", annotation := none, pos := p1 }, { arg := "line", annotation := none, pos := p2 }], vararg := none, kwonlyargs := [], kw_defaults := [], kwarg := none, defaults := [] }
abbrev eB (msg : Expr) (p0 p1 p2 p3 p4 p5 p6 p7 p8 : Pos) : List Stmt := [.Expr (.Call (.Attribute (.Call (.Name "super" p0) [] [] p1) "__init__" p2) [msg] [] p3) p4, .Assign [.Attribute (.Name "self" p5) "line" p6] (.Name "line" p7) p8]
/-- the message -/
abbrev eM (z : Str) (q0 : Pos) : Expr := .Constant (.str z) 0 q0
abbrev mroVE : List Value := [.type "ValueError", .type "Exception", .type "BaseException", .type "object"]
/-- what the written part says of the class at C, and of its __init__, at fI -/
structure ErrTxt (prog : Program) (K : Frag) (mg : Str → Option Value) (x : Str) (C fI : Addr) : Prop where
  gC : mg x = some (.ref C)
  cls : ∃ nm q N bs bm sn sub ab col dd k0 k1 k2 k3 k5, K.lookup C = some (excClassObj nm q C N bs bm true sn sub ab col dd k0 k1 k2 k3 k5 "ValueError.__new__") ∧ refsVE bm = true
  ei : excInitIn K C mroVE "ValueError.__new__" = true
  sa : findIn K (.ref C) "__setattr__" = some (some (.builtin "object.__setattr__"))
  noN : findIn K (.ref C) "line" = some none
  iC : findIn K (.ref C) "__init__" = some (some (.ref fI))
  tC : typeIn K (.ref fI) = some (.type "function")
  kC : keepIn K (.ref C) = true
  exC : subIn K (.ref C) (.type "BaseException") = some true
  veC : subIn K (.ref C) (.type "ValueError") = some true
  tyC : typeIn K (.ref C) = some (.type "type")
  slf : mroIn K C (.ref C) = some true
  sup : ks_superIn K C C "__init__" = some (some (.builtin "ValueError.__init__"))
  opq : nsIn K cStatics "thirdparty.any" = some none
  gs : mg "super" = none
  top : (prog.main.scope.names.lookup ("super" : Str)).isSome = false
  fn : ∃ (oc : Value) (od an : Option Addr) (kV doc pm ct : Value) (osl : Array (Option Value)) (qual : Str) (cda cc : Addr) (ccl cl : Value) (cdd cld : Option Addr) (ccs csl : Array (Option Value)) (vs : Array Value) (file : Str) (tf : Tok) (zM : Str) (p1 p2 q0 r0 r1 r2 r3 r4 r5 r6 r7 r8 : Pos),
    K.lookup fI = some ⟨oc, od, .func (ksFn "__init__" qual (eA p1 p2) (eB (eM zM q0) r0 r1 r2 r3 r4 r5 r6 r7 r8) eS .none kV doc pm an (.ref cda) ct cc), osl⟩ ∧ codeIn K (.ref cda) qual = true ∧
    K.lookup cda = some ⟨ccl, cdd, .fields vs, ccs⟩ ∧ vs[2]? = some (.str file tf) ∧ ((prog.main.file : Str) == file) = true ∧ K.lookup cc = some ⟨cl, cld, .cell (some (.ref C)), csl⟩ ∧ zM.length ≤ 1000 ∧ (r2.endLine == r3.line) = true
theorem call_line {o : Expr} {name : Str} {apos pos : Pos} {a : Expr} {env : Env} (hp : (apos.endLine == pos.line) = true) (hs : starEach [a] env = (false, eval a env) :: starEach [] env) : eval (.Call (.Attribute o name apos) [a] [] pos) env = (do
      let ov ← attributeBase o name env (eval o env)
      standAt apos.atName
      let (f, first) ← holding [ov] (getMethod ov name (do return (← importBound o env).getD true))
      callWith pos f first (backTo pos (starEach [a] env)) []) := by
  show (do
      let ov ← attributeBase o name env (eval o env)
      standAt apos.atName
      methodCall o name apos pos env ov 1 (backTo pos (starEach [a] env)) []) = _
  have e : methodCallForm 1 (backTo pos (starEach [a] env)) [] = true := by
    rw [hs]
    rfl
  unfold methodCall
  rw [e]
  unfold methodCallPos calleeOf
  rw [hp]
  simp only [Bool.not_true, Bool.false_or, if_true, pure_bind]
/-- what __init__ leaves of a fresh exception at x, over the heap h -/
structure BtEnd (h h' : Heap) (x C dx t1 : Addr) (v : Value) : Prop where
  keep : ∀ b o, h.get? b = some o → h'.get? b = some o
  obj : h'.get? x = some { cls := .ref C, dict := some dx, data := .fields #[.ref t1, .none, .none, .none, .bool false, .none] }
  dbig : h.objs.size ≤ dx
  dne : dx ≠ x
  ns : h'.Ns1 dx (fun y => if y = "line" then some v else none)
theorem str_len2 (a b : Str) : (a ++ b).length = a.length + b.length := by
  show (a.cps ++ b.cps).size = _
  rw [Array.size_append]
  rfl
theorem len1 (v : Value) : [v].length ≤ sizeLine := by
  rw [sizeLine_eq]
  exact (by decide : 1 ≤ 16777216)
section
variable {prog : Program} {w : World} {A : Around} {E : Value → Shared → Prop} {R : Result → Shared → Prop} {s : Shared} {K : Frag} {mg : Str → Option Value} {x0 : Str} {C fI : Addr}
theorem bt_init (T : ErrTxt prog K mg x0 C fI) {hp : Heap} {x t0 : Addr} {v : Value} (X : K.In hp) (G : hp.Ns mainGlobals mg) (Bl : ∃ mb, hp.Ns builtinsNs mb ∧ mb "super" = some (.type "super")) (hlim : s.heap.NoLimit)
    (k : ∀ b o, hp.get? b = some o → s.heap.get? b = some o) (hsz : hp.objs.size ≤ s.heap.objs.size) (hx : s.heap.get? x = some (excO C t0)) (hxn : hp.get? x = none) (hroom : A.depth < recursionLimit)
    (hq : ∀ h' tk' dx t1, BtEnd hp h' x C dx t1 v → R (.ok (.ret .none)) { s with heap := h', toks := tk' }) :
    codeAny (model prog w) A (.call (.ref fI) ⟨[.ref x, v], []⟩) R s := by
  obtain ⟨oc, od, an, kV, doc, pm, ct, osl, qual, cda, cc, ccl, cl, cdd, cld, ccs, csl, vs, file, tf, zM, p1, p2, q0, r0, r1, r2, r3, r4, r5, r6, r7, r8, ho, hcd, hcode, hvs, hfile, hcell, hM, hline⟩ := T.fn
  obtain ⟨nm, q, N, bs, bm, sn, sub, ab, col, dd, k0, k1, k2, k3, k5, hC, hbm⟩ := T.cls
  obtain ⟨mb, hb, hmb⟩ := Bl
  have hcl : clsIn K C = some { name := nm, bases := bs, mro := .ref C :: bm, ns := N, qualname := q, hasDict := true, slotNames := sn, subclasses := sub, abstract := ab, collection := col, hasDel := false } := by unfold clsIn; rw [hC] <;> rfl
  have Xs : K.In s.heap := X.keeps k
  have noc : ∀ y ∈ eS.names, y.2 ≠ .cell := by decide +kernel
  have locs : ∀ y ∈ [(("self" : Str), Value.ref x), ("line", v)], eS.names.lookup y.1 = some .local := fun y hy => by
    rcases List.mem_cons.mp hy with rfl | hy
    · rfl
    · rw [List.mem_singleton.mp hy]
      rfl
  refine ks_codeAny_call_defAt (body := eB (eM zM q0) r0 r1 r2 r3 r4 r5 r6 r7 r8) (binds := [("self", .ref x), ("line", v)]) hroom (Xs _ _ ho) rfl hlim (codeRec_of Xs hcd) rfl (BindsTo.of_eq (by first | rfl | with_unfolding_all rfl)) noc locs (fun h₁ hns hk₁ => ?_) rfl rfl rfl
  have Fr1 : Fr hp s.heap.objs.size h₁ (fun y => [(("self" : Str), Value.ref x), ("line", v)].reverse.lookup y) := ⟨hns, fun b o e => hk₁ b o (k b o e), hsz⟩
  have N1 : News hp s.heap.objs.size h₁ [(x, excObj C t0 none .none)] := fun p hp' => by
    rw [List.mem_singleton.mp hp']
    exact ⟨hk₁ _ _ hx, Nat.ne_of_lt (Heap.lt_size hx), hxn⟩
  show _root_.PySem.wpAt (model prog w) _ (.func _ (ksEnv qual eS s.heap.objs.size fI (.ref cda) cc)) (execs (eB (eM zM q0) r0 r1 r2 r3 r4 r5 r6 r7 r8) (ksEnv qual eS s.heap.objs.size fI (.ref cda) cc)) _ _ _
  refine ks_wpAt_execs_cons (ks_wpAt_Expr_any (ks_wpAt_MethodCall ?_ (call_line hline rfl)))
  generalize hE : (fun e s' => wpAny (model prog w) _ (leaving _ e) (fun x s'' => R (Except.error e) s'') (fun e' s'' => R (Except.error e') s'') s') = EE
  have X1 : K.In h₁ := X.keeps Fr1.keep
  -- super()
  refine ks_wpAt_super_base (env := ksEnv qual eS s.heap.objs.size fI (.ref cda) cc) rfl rfl rfl rfl (X1 _ _ ho) rfl rfl rfl (X1 _ _ hcode) rfl hvs hfile T.top ?_
  refine ks_loadName_global rfl rfl (loadGlobal_builtin (env := ksEnv qual eS s.heap.objs.size fI (.ref cda) cc) (G.keeps Fr1.keep) T.gs (hb.keeps Fr1.keep) hmb ⟨rfl, ?_⟩)
  refine wpAny_loadName_free rfl rfl rfl ⟨_, X1 _ _ hcell, rfl⟩ ?_
  refine wpAny_loadName_local (v := .ref x) rfl rfl hns rfl ?_
  refine ks_wpAny_isType_cls (X1 _ _ hC) rfl ⟨rfl, ?_⟩
  refine ks_wpAny_call_super (X1 _ _ hC) rfl (hk₁ _ _ hx) rfl (fun c z => by cases z) (looks_mroIn X1 T.slf) (fun h2 hso k2 => ?_)
  obtain ⟨F2, N2, l2⟩ := ks_newsPush (s := ⟨h₁, s.gens, s.drawn, s.toks + 2, s.os⟩) Fr1 N1 rfl hso k2
  -- its __init__, bound
  refine kxs_method kxs_ValueError F2 X N2 (List.mem_cons_self ..) (InstAt.of_exc0 (c2 := .none) (t := t0) N2 (List.mem_cons_of_mem _ (List.mem_cons_self ..))) T.opq T.sup T.veC rfl (fun u h3 F3 N3 l3 => ?_)
  refine kxs_callWith1 N3 (List.mem_cons_self ..) ?_ rfl rfl
  refine Calls.spliced_cons ?_
  show wpAny _ _ (eval (eM zM q0) (ksEnv qual eS s.heap.objs.size fI (.ref cda) cc)) _ _ _
  refine Calls.Constant_str ?_
  refine Calls.spliced_nil ⟨kxs_at N3 (List.mem_cons_self ..), ?_⟩
  have nx1 : h₁.objs.size ≠ x := fun z => Nat.lt_irrefl _ (z ▸ l2 _ (List.mem_cons_self ..) : x < x)
  have nx2 : u ≠ x := fun z => Nat.lt_irrefl _ (z ▸ l3 _ (List.mem_cons_of_mem _ (List.mem_cons_self ..)) : x < x)
  refine kxs_call F3 X N3 PySem.F.excBase_ValueError T.ei (List.mem_cons_self ..) (.tail nx2 (.tail nx1 (.head fun p hp' => by cases hp'))) (len1 _) (fun t' h4 F4 N4 l4 => ?_)
  -- self.field = field
  have X4 : K.In h4 := X.keeps F4.keep
  have hx4 : h4.get? x = some (excO C t') := (N4 (x, excObj C t' none .none) (List.mem_cons_of_mem _ (List.mem_cons_of_mem _ (List.mem_cons_of_mem _ (List.mem_cons_self ..))))).1
  refine wpAt_of_wpAny (wpAny_execs_cons (plainObj_wpAny_Assign_Attribute ?_))
  refine wpAny_Name (wpAny_loadName_local (v := v) rfl rfl F4.ns rfl ?_) rfl
  refine wpAny_Name (wpAny_loadName_local (v := .ref x) rfl rfl F4.ns rfl ?_) rfl
  refine set_plain X4 (ox := excO C t') (od := none) ⟨hx4, rfl, rfl, trivial⟩ T.sa ?_
  refine exc_osa X4 hx4 hcl (show refsVE (.ref C :: bm) = true from hbm) rfl T.noN (fun h5 tk5 dx k5 dn dne hx5 hn5 => ?_)
  have zz : s.heap.objs.size < h4.objs.size := F4.ns.lt
  exact wpAny_execs_nil (hq h5 tk5 dx t' ⟨fun b o e => k5 b o (fun z => by rw [z, hxn] at e; cases e) (F4.keep b o e), hx5, Nat.le_trans hsz (Nat.le_trans (Nat.le_of_lt zz) dn), dne, hn5⟩)
end
/-- a made one -/
structure BtMade (h h' : Heap) (e C d : Addr) (v : Value) : Prop where
  keep : ∀ b o, h.get? b = some o → h'.get? b = some o
  big : h.objs.size ≤ e
  obj : ∃ t1 : Addr, h'.get? e = some { cls := .ref C, dict := some d, data := .fields #[.ref t1, .none, .none, .none, .bool false, .none] }
  dbig : h.objs.size ≤ d
  dne : d ≠ e
  ns : h'.Ns1 d (fun y => if y = "line" then some v else none)
section
variable {prog : Program} {w : World} {A : Around} {R : Result → Shared → Prop} {s : Shared} {K : Frag} {mg : Str → Option Value} {x0 : Str} {C fI : Addr}
theorem bt_made (T : ErrTxt prog K mg x0 C fI) {v : Value} (X : K.In s.heap) (G : s.heap.Ns mainGlobals mg) (Bl : ∃ mb, s.heap.Ns builtinsNs mb ∧ mb "super" = some (.type "super")) (hlim : s.heap.NoLimit) (hroom : A.depth + 1 < recursionLimit)
    (hq : ∀ h' tk' e d, BtMade s.heap h' e C d v → R (.ok (.ret (.ref e))) { s with heap := h', toks := tk' }) : codeAny (model prog w) A (.call (.ref C) ⟨[v], []⟩) R s := by
  obtain ⟨nm, q, N, bs, bm, sn, sub, ab, col, dd, k0, k1, k2, k3, k5, hC, hbm⟩ := T.cls
  obtain ⟨g0, gs, dr, t, os⟩ := s
  let g2 : Heap := (g0.push (kdv_tup [v])).push (excO C g0.objs.size)
  have up : ∀ b o, g0.get? b = some o → g2.get? b = some o := fun b o e => Heap.get?_push_of_some _ (Heap.get?_push_of_some _ e)
  have at1 : g2.get? (g0.objs.size + 1) = some (excO C g0.objs.size) := by
    show ((g0.push (kdv_tup [v])).push (excO C g0.objs.size)).get? (g0.objs.size + 1) = _
    heap_get
  have sz2 : g2.objs.size = g0.objs.size + 1 + 1 := by
    show ((g0.push (kdv_tup [v])).push (excO C g0.objs.size)).objs.size = _
    rw [Heap.size_push, Heap.size_push]
  have free1 : g0.get? (g0.objs.size + 1) = none := by
    cases e : g0.get? (g0.objs.size + 1) with
    | none => rfl
    | some o => exact absurd (Nat.lt_of_succ_lt (Heap.lt_size e)) (Nat.lt_irrefl _)
  refine call_own F.excBase_ValueError (fun Y => refsVE_contains Y bm hbm) (X _ _ hC) (looks_findIn X T.iC) (fun self => bind_fn X self T.tC) (len1 _) ?_
  refine bt_init (s := ⟨g2, gs, dr, t, os⟩) (hp := g0) T X G Bl (hlim.keeps up) up (by show g0.objs.size ≤ g2.objs.size; omega) at1 free1 hroom fun h' t' dx t1 ⟨k, ho, dbig, dne, hns⟩ => ?_
  exact ⟨rfl, hq h' t' (g0.objs.size + 1) dx ⟨k, Nat.le_succ _, ⟨t1, ho⟩, dbig, dne, hns⟩⟩
end
end FsBline
namespace FsBline
open PySem PySem.Spec PyProof.Rows L2
theorem relO_one {v : V} {u : Value} (r : RelV v u) (g : Str) : RelO (List.lookup g [(("line" : Str), v)]) (if g = "line" then some u else none) := by
  by_cases h : g = "line"
  · rw [h, if_pos rfl, show List.lookup ("line" : Str) [(("line" : Str), v)] = some v by simp [List.lookup]]
    exact r
  · rw [if_neg h, show List.lookup g [(("line" : Str), v)] = none by simp [List.lookup, show (g == "line") = false by simpa using h]]
    trivial
/-- X(v), its one field v -/
def tNew (C : Addr) (te : TE) : TE := fun σ H Q => te σ H fun v H1 => ∀ a d, H1 a = none → H1 d = none → d ≠ a → Q (.ref a) (upd (upd H1 a (exo a C (some d))) d (exd d [("line", v)]))
theorem pe_new {X : Cx} {C fI : Addr} {x : Str} {e : Expr} {te : TE} {p pos : Pos} (T : ErrTxt X.prog X.K X.mg x C fI) (hr : Room 2 X.A) (he : PE X e te) (hg : Gl X x) (hdb : (x == ("__debug__" : Str)) = false := by decide)
    (hs : starEach [e] X.env = (false, eval e X.env) :: starEach [] X.env := by rfl) (hpl : (backTo pos (starEach [] X.env)).any (·.1) = false := by rfl) : PE X (.Call (.Name x p) [e] [] pos) (tNew C te) := by
  refine ⟨fun pins s σ H Q I h => ?_⟩
  refine wpAny_Call_Name_kw (ld_glob I hg T.gC ?_ hdb)
  refine PySem.W.callWith_K (h₀ := X.base) I.ok.mod.kin T.kC ?_ hs hpl
  rw [hs]
  refine Calls.spliced_cons (thn (he.run pins s σ H _ I h) fun u s1 ⟨v, H1, I1, r1, q1⟩ => ?_)
  refine Calls.spliced_nil ⟨I1.kIn, ?_⟩
  show wpAny _ _ (call (.ref C) [u]) _ _ _
  have lim := I1.nolimit
  obtain ⟨mb, b1, b2⟩ := I1.ok.mod.blt
  have gl : s1.heap.Ns mainGlobals X.mg := I1.ok.mod.glob.keeps I1.bk
  have bl : ∃ mb, s1.heap.Ns builtinsNs mb ∧ mb "super" = some (.type "super") := ⟨mb, b1.keeps I1.bk, (b2 _ (by decide)).trans Boot.«super»⟩
  obtain ⟨g0, gs, dr, t, os⟩ := s1
  refine wpAny_call (bt_made T I1.kIn gl bl lim (by have := hr.dp; omega) fun h' t' a d M => ?_)
  obtain ⟨t1, ho⟩ := M.obj
  obtain ⟨G, ge1, ge2⟩ := restrict h' fun b => decide (b ≠ d)
  have same : ∀ b, b ≠ d → G.get? b = h'.get? b := fun b hb => ge1 b (decide_eq_true hb)
  have gone : G.get? d = none := ge2 d (by simp)
  have old : ∀ b o, g0.get? b = some o → G.get? b = some o := fun b o z => (same b (Nat.ne_of_lt (Nat.lt_of_lt_of_le (Heap.lt_size z) M.dbig))).trans (M.keep b o z)
  have na := I1.hok.fresh M.big
  have nd := I1.hok.fresh M.dbig
  have I2 : Inv X pins σ (upd H1 a (exo a C (some d))) ⟨G, gs, dr, t', os⟩ := I1.laid (t' := t') old M.big (exo_ok ((same a (Ne.symm M.dne)).trans ho))
  have I3 := I2.laidN (h' := h') (a := d) (o := exd d [("line", v)]) (t' := t') (fun b o z => by
    by_cases hb : b = d
    · rw [hb, gone] at z
      cases z
    · exact (same b hb).symm.trans z) gone (by rw [upd_ne M.dne]; exact nd) (exd_ok M.ns (relO_one r1))
  exact ⟨.ref a, _, I3, rfl, q1 a d na nd M.dne⟩
end FsBline

set_option Elab.async false
set_option linter.all false
set_option maxRecDepth 100000
set_option maxHeartbeats 4000000
/-! An own error over ValueError, by a class between: its __init__ calls super().__init__ with a fixed text, then stores its one argument as the field name. -/
namespace FsBname
open PySem PySem.W PySem.Calls PyProof.Rows PySem.HandSPX
abbrev eS : Scope := { kind := .function, names := [(PySem.Str.ofString "self", .local), (PySem.Str.ofString "name", .local), (PySem.Str.ofString "__class__", .free), (PySem.Str.ofString "super", .globalImplicit)], isGenerator := false, isCoroutine := false, more := [] }
abbrev eA (p1 p2 : Pos) : Arguments := { posonlyargs := [], args := [{ arg := "self", annotation := none, pos := p1 }, { arg := "name", annotation := none, pos := p2 }], vararg := none, kwonlyargs := [], kw_defaults := [], kwarg := none, defaults := [] }
abbrev eB (msg : Expr) (p0 p1 p2 p3 p4 p5 p6 p7 p8 : Pos) : List Stmt := [.Expr (.Call (.Attribute (.Call (.Name "super" p0) [] [] p1) "__init__" p2) [msg] [] p3) p4, .Assign [.Attribute (.Name "self" p5) "name" p6] (.Name "name" p7) p8]
/-- the message -/
abbrev eM (z : Str) (q0 : Pos) : Expr := .Constant (.str z) 0 q0
abbrev mroVE : List Value := [.type "ValueError", .type "Exception", .type "BaseException", .type "object"]
/-- what the written part says of the class at C, and of its __init__, at fI -/
structure ErrTxt (prog : Program) (K : Frag) (mg : Str → Option Value) (x : Str) (C fI : Addr) : Prop where
  gC : mg x = some (.ref C)
  cls : ∃ nm q N bs bm sn sub ab col dd k0 k1 k2 k3 k5, K.lookup C = some (excClassObj nm q C N bs bm true sn sub ab col dd k0 k1 k2 k3 k5 "ValueError.__new__") ∧ refsVE bm = true
  ei : excInitIn K C mroVE "ValueError.__new__" = true
  sa : findIn K (.ref C) "__setattr__" = some (some (.builtin "object.__setattr__"))
  noN : findIn K (.ref C) "name" = some none
  iC : findIn K (.ref C) "__init__" = some (some (.ref fI))
  tC : typeIn K (.ref fI) = some (.type "function")
  kC : keepIn K (.ref C) = true
  exC : subIn K (.ref C) (.type "BaseException") = some true
  veC : subIn K (.ref C) (.type "ValueError") = some true
  tyC : typeIn K (.ref C) = some (.type "type")
  slf : mroIn K C (.ref C) = some true
  sup : ks_superIn K C C "__init__" = some (some (.builtin "ValueError.__init__"))
  opq : nsIn K cStatics "thirdparty.any" = some none
  gs : mg "super" = none
  top : (prog.main.scope.names.lookup ("super" : Str)).isSome = false
  fn : ∃ (oc : Value) (od an : Option Addr) (kV doc pm ct : Value) (osl : Array (Option Value)) (qual : Str) (cda cc : Addr) (ccl cl : Value) (cdd cld : Option Addr) (ccs csl : Array (Option Value)) (vs : Array Value) (file : Str) (tf : Tok) (zM : Str) (p1 p2 q0 r0 r1 r2 r3 r4 r5 r6 r7 r8 : Pos),
    K.lookup fI = some ⟨oc, od, .func (ksFn "__init__" qual (eA p1 p2) (eB (eM zM q0) r0 r1 r2 r3 r4 r5 r6 r7 r8) eS .none kV doc pm an (.ref cda) ct cc), osl⟩ ∧ codeIn K (.ref cda) qual = true ∧
    K.lookup cda = some ⟨ccl, cdd, .fields vs, ccs⟩ ∧ vs[2]? = some (.str file tf) ∧ ((prog.main.file : Str) == file) = true ∧ K.lookup cc = some ⟨cl, cld, .cell (some (.ref C)), csl⟩ ∧ zM.length ≤ 1000 ∧ (r2.endLine == r3.line) = true
theorem call_line {o : Expr} {name : Str} {apos pos : Pos} {a : Expr} {env : Env} (hp : (apos.endLine == pos.line) = true) (hs : starEach [a] env = (false, eval a env) :: starEach [] env) : eval (.Call (.Attribute o name apos) [a] [] pos) env = (do
      let ov ← attributeBase o name env (eval o env)
      standAt apos.atName
      let (f, first) ← holding [ov] (getMethod ov name (do return (← importBound o env).getD true))
      callWith pos f first (backTo pos (starEach [a] env)) []) := by
  show (do
      let ov ← attributeBase o name env (eval o env)
      standAt apos.atName
      methodCall o name apos pos env ov 1 (backTo pos (starEach [a] env)) []) = _
  have e : methodCallForm 1 (backTo pos (starEach [a] env)) [] = true := by
    rw [hs]
    rfl
  unfold methodCall
  rw [e]
  unfold methodCallPos calleeOf
  rw [hp]
  simp only [Bool.not_true, Bool.false_or, if_true, pure_bind]
/-- what __init__ leaves of a fresh exception at x, over the heap h -/
structure BtEnd (h h' : Heap) (x C dx t1 : Addr) (v : Value) : Prop where
  keep : ∀ b o, h.get? b = some o → h'.get? b = some o
  obj : h'.get? x = some { cls := .ref C, dict := some dx, data := .fields #[.ref t1, .none, .none, .none, .bool false, .none] }
  dbig : h.objs.size ≤ dx
  dne : dx ≠ x
  ns : h'.Ns1 dx (fun y => if y = "name" then some v else none)
theorem str_len2 (a b : Str) : (a ++ b).length = a.length + b.length := by
  show (a.cps ++ b.cps).size = _
  rw [Array.size_append]
  rfl
theorem len1 (v : Value) : [v].length ≤ sizeLine := by
  rw [sizeLine_eq]
  exact (by decide : 1 ≤ 16777216)
section
variable {prog : Program} {w : World} {A : Around} {E : Value → Shared → Prop} {R : Result → Shared → Prop} {s : Shared} {K : Frag} {mg : Str → Option Value} {x0 : Str} {C fI : Addr}
theorem bt_init (T : ErrTxt prog K mg x0 C fI) {hp : Heap} {x t0 : Addr} {v : Value} (X : K.In hp) (G : hp.Ns mainGlobals mg) (Bl : ∃ mb, hp.Ns builtinsNs mb ∧ mb "super" = some (.type "super")) (hlim : s.heap.NoLimit)
    (k : ∀ b o, hp.get? b = some o → s.heap.get? b = some o) (hsz : hp.objs.size ≤ s.heap.objs.size) (hx : s.heap.get? x = some (excO C t0)) (hxn : hp.get? x = none) (hroom : A.depth < recursionLimit)
    (hq : ∀ h' tk' dx t1, BtEnd hp h' x C dx t1 v → R (.ok (.ret .none)) { s with heap := h', toks := tk' }) :
    codeAny (model prog w) A (.call (.ref fI) ⟨[.ref x, v], []⟩) R s := by
  obtain ⟨oc, od, an, kV, doc, pm, ct, osl, qual, cda, cc, ccl, cl, cdd, cld, ccs, csl, vs, file, tf, zM, p1, p2, q0, r0, r1, r2, r3, r4, r5, r6, r7, r8, ho, hcd, hcode, hvs, hfile, hcell, hM, hline⟩ := T.fn
  obtain ⟨nm, q, N, bs, bm, sn, sub, ab, col, dd, k0, k1, k2, k3, k5, hC, hbm⟩ := T.cls
  obtain ⟨mb, hb, hmb⟩ := Bl
  have hcl : clsIn K C = some { name := nm, bases := bs, mro := .ref C :: bm, ns := N, qualname := q, hasDict := true, slotNames := sn, subclasses := sub, abstract := ab, collection := col, hasDel := false } := by unfold clsIn; rw [hC] <;> rfl
  have Xs : K.In s.heap := X.keeps k
  have noc : ∀ y ∈ eS.names, y.2 ≠ .cell := by decide +kernel
  have locs : ∀ y ∈ [(("self" : Str), Value.ref x), ("name", v)], eS.names.lookup y.1 = some .local := fun y hy => by
    rcases List.mem_cons.mp hy with rfl | hy
    · rfl
    · rw [List.mem_singleton.mp hy]
      rfl
  refine ks_codeAny_call_defAt (body := eB (eM zM q0) r0 r1 r2 r3 r4 r5 r6 r7 r8) (binds := [("self", .ref x), ("name", v)]) hroom (Xs _ _ ho) rfl hlim (codeRec_of Xs hcd) rfl (BindsTo.of_eq (by first | rfl | with_unfolding_all rfl)) noc locs (fun h₁ hns hk₁ => ?_) rfl rfl rfl
  have Fr1 : Fr hp s.heap.objs.size h₁ (fun y => [(("self" : Str), Value.ref x), ("name", v)].reverse.lookup y) := ⟨hns, fun b o e => hk₁ b o (k b o e), hsz⟩
  have N1 : News hp s.heap.objs.size h₁ [(x, excObj C t0 none .none)] := fun p hp' => by
    rw [List.mem_singleton.mp hp']
    exact ⟨hk₁ _ _ hx, Nat.ne_of_lt (Heap.lt_size hx), hxn⟩
  show _root_.PySem.wpAt (model prog w) _ (.func _ (ksEnv qual eS s.heap.objs.size fI (.ref cda) cc)) (execs (eB (eM zM q0) r0 r1 r2 r3 r4 r5 r6 r7 r8) (ksEnv qual eS s.heap.objs.size fI (.ref cda) cc)) _ _ _
  refine ks_wpAt_execs_cons (ks_wpAt_Expr_any (ks_wpAt_MethodCall ?_ (call_line hline rfl)))
  generalize hE : (fun e s' => wpAny (model prog w) _ (leaving _ e) (fun x s'' => R (Except.error e) s'') (fun e' s'' => R (Except.error e') s'') s') = EE
  have X1 : K.In h₁ := X.keeps Fr1.keep
  -- super()
  refine ks_wpAt_super_base (env := ksEnv qual eS s.heap.objs.size fI (.ref cda) cc) rfl rfl rfl rfl (X1 _ _ ho) rfl rfl rfl (X1 _ _ hcode) rfl hvs hfile T.top ?_
  refine ks_loadName_global rfl rfl (loadGlobal_builtin (env := ksEnv qual eS s.heap.objs.size fI (.ref cda) cc) (G.keeps Fr1.keep) T.gs (hb.keeps Fr1.keep) hmb ⟨rfl, ?_⟩)
  refine wpAny_loadName_free rfl rfl rfl ⟨_, X1 _ _ hcell, rfl⟩ ?_
  refine wpAny_loadName_local (v := .ref x) rfl rfl hns rfl ?_
  refine ks_wpAny_isType_cls (X1 _ _ hC) rfl ⟨rfl, ?_⟩
  refine ks_wpAny_call_super (X1 _ _ hC) rfl (hk₁ _ _ hx) rfl (fun c z => by cases z) (looks_mroIn X1 T.slf) (fun h2 hso k2 => ?_)
  obtain ⟨F2, N2, l2⟩ := ks_newsPush (s := ⟨h₁, s.gens, s.drawn, s.toks + 2, s.os⟩) Fr1 N1 rfl hso k2
  -- its __init__, bound
  refine kxs_method kxs_ValueError F2 X N2 (List.mem_cons_self ..) (InstAt.of_exc0 (c2 := .none) (t := t0) N2 (List.mem_cons_of_mem _ (List.mem_cons_self ..))) T.opq T.sup T.veC rfl (fun u h3 F3 N3 l3 => ?_)
  refine kxs_callWith1 N3 (List.mem_cons_self ..) ?_ rfl rfl
  refine Calls.spliced_cons ?_
  show wpAny _ _ (eval (eM zM q0) (ksEnv qual eS s.heap.objs.size fI (.ref cda) cc)) _ _ _
  refine Calls.Constant_str ?_
  refine Calls.spliced_nil ⟨kxs_at N3 (List.mem_cons_self ..), ?_⟩
  have nx1 : h₁.objs.size ≠ x := fun z => Nat.lt_irrefl _ (z ▸ l2 _ (List.mem_cons_self ..) : x < x)
  have nx2 : u ≠ x := fun z => Nat.lt_irrefl _ (z ▸ l3 _ (List.mem_cons_of_mem _ (List.mem_cons_self ..)) : x < x)
  refine kxs_call F3 X N3 PySem.F.excBase_ValueError T.ei (List.mem_cons_self ..) (.tail nx2 (.tail nx1 (.head fun p hp' => by cases hp'))) (len1 _) (fun t' h4 F4 N4 l4 => ?_)
  -- self.field = field
  have X4 : K.In h4 := X.keeps F4.keep
  have hx4 : h4.get? x = some (excO C t') := (N4 (x, excObj C t' none .none) (List.mem_cons_of_mem _ (List.mem_cons_of_mem _ (List.mem_cons_of_mem _ (List.mem_cons_self ..))))).1
  refine wpAt_of_wpAny (wpAny_execs_cons (plainObj_wpAny_Assign_Attribute ?_))
  refine wpAny_Name (wpAny_loadName_local (v := v) rfl rfl F4.ns rfl ?_) rfl
  refine wpAny_Name (wpAny_loadName_local (v := .ref x) rfl rfl F4.ns rfl ?_) rfl
  refine set_plain X4 (ox := excO C t') (od := none) ⟨hx4, rfl, rfl, trivial⟩ T.sa ?_
  refine exc_osa X4 hx4 hcl (show refsVE (.ref C :: bm) = true from hbm) rfl T.noN (fun h5 tk5 dx k5 dn dne hx5 hn5 => ?_)
  have zz : s.heap.objs.size < h4.objs.size := F4.ns.lt
  exact wpAny_execs_nil (hq h5 tk5 dx t' ⟨fun b o e => k5 b o (fun z => by rw [z, hxn] at e; cases e) (F4.keep b o e), hx5, Nat.le_trans hsz (Nat.le_trans (Nat.le_of_lt zz) dn), dne, hn5⟩)
end
/-- a made one -/
structure BtMade (h h' : Heap) (e C d : Addr) (v : Value) : Prop where
  keep : ∀ b o, h.get? b = some o → h'.get? b = some o
  big : h.objs.size ≤ e
  obj : ∃ t1 : Addr, h'.get? e = some { cls := .ref C, dict := some d, data := .fields #[.ref t1, .none, .none, .none, .bool false, .none] }
  dbig : h.objs.size ≤ d
  dne : d ≠ e
  ns : h'.Ns1 d (fun y => if y = "name" then some v else none)
section
variable {prog : Program} {w : World} {A : Around} {R : Result → Shared → Prop} {s : Shared} {K : Frag} {mg : Str → Option Value} {x0 : Str} {C fI : Addr}
theorem bt_made (T : ErrTxt prog K mg x0 C fI) {v : Value} (X : K.In s.heap) (G : s.heap.Ns mainGlobals mg) (Bl : ∃ mb, s.heap.Ns builtinsNs mb ∧ mb "super" = some (.type "super")) (hlim : s.heap.NoLimit) (hroom : A.depth + 1 < recursionLimit)
    (hq : ∀ h' tk' e d, BtMade s.heap h' e C d v → R (.ok (.ret (.ref e))) { s with heap := h', toks := tk' }) : codeAny (model prog w) A (.call (.ref C) ⟨[v], []⟩) R s := by
  obtain ⟨nm, q, N, bs, bm, sn, sub, ab, col, dd, k0, k1, k2, k3, k5, hC, hbm⟩ := T.cls
  obtain ⟨g0, gs, dr, t, os⟩ := s
  let g2 : Heap := (g0.push (kdv_tup [v])).push (excO C g0.objs.size)
  have up : ∀ b o, g0.get? b = some o → g2.get? b = some o := fun b o e => Heap.get?_push_of_some _ (Heap.get?_push_of_some _ e)
  have at1 : g2.get? (g0.objs.size + 1) = some (excO C g0.objs.size) := by
    show ((g0.push (kdv_tup [v])).push (excO C g0.objs.size)).get? (g0.objs.size + 1) = _
    heap_get
  have sz2 : g2.objs.size = g0.objs.size + 1 + 1 := by
    show ((g0.push (kdv_tup [v])).push (excO C g0.objs.size)).objs.size = _
    rw [Heap.size_push, Heap.size_push]
  have free1 : g0.get? (g0.objs.size + 1) = none := by
    cases e : g0.get? (g0.objs.size + 1) with
    | none => rfl
    | some o => exact absurd (Nat.lt_of_succ_lt (Heap.lt_size e)) (Nat.lt_irrefl _)
  refine call_own F.excBase_ValueError (fun Y => refsVE_contains Y bm hbm) (X _ _ hC) (looks_findIn X T.iC) (fun self => bind_fn X self T.tC) (len1 _) ?_
  refine bt_init (s := ⟨g2, gs, dr, t, os⟩) (hp := g0) T X G Bl (hlim.keeps up) up (by show g0.objs.size ≤ g2.objs.size; omega) at1 free1 hroom fun h' t' dx t1 ⟨k, ho, dbig, dne, hns⟩ => ?_
  exact ⟨rfl, hq h' t' (g0.objs.size + 1) dx ⟨k, Nat.le_succ _, ⟨t1, ho⟩, dbig, dne, hns⟩⟩
end
end FsBname
namespace FsBname
open PySem PySem.Spec PyProof.Rows L2
theorem relO_one {v : V} {u : Value} (r : RelV v u) (g : Str) : RelO (List.lookup g [(("name" : Str), v)]) (if g = "name" then some u else none) := by
  by_cases h : g = "name"
  · rw [h, if_pos rfl, show List.lookup ("name" : Str) [(("name" : Str), v)] = some v by simp [List.lookup]]
    exact r
  · rw [if_neg h, show List.lookup g [(("name" : Str), v)] = none by simp [List.lookup, show (g == "name") = false by simpa using h]]
    trivial
/-- X(v), its one field v -/
def tNew (C : Addr) (te : TE) : TE := fun σ H Q => te σ H fun v H1 => ∀ a d, H1 a = none → H1 d = none → d ≠ a → Q (.ref a) (upd (upd H1 a (exo a C (some d))) d (exd d [("name", v)]))
theorem pe_new {X : Cx} {C fI : Addr} {x : Str} {e : Expr} {te : TE} {p pos : Pos} (T : ErrTxt X.prog X.K X.mg x C fI) (hr : Room 2 X.A) (he : PE X e te) (hg : Gl X x) (hdb : (x == ("__debug__" : Str)) = false := by decide)
    (hs : starEach [e] X.env = (false, eval e X.env) :: starEach [] X.env := by rfl) (hpl : (backTo pos (starEach [] X.env)).any (·.1) = false := by rfl) : PE X (.Call (.Name x p) [e] [] pos) (tNew C te) := by
  refine ⟨fun pins s σ H Q I h => ?_⟩
  refine wpAny_Call_Name_kw (ld_glob I hg T.gC ?_ hdb)
  refine PySem.W.callWith_K (h₀ := X.base) I.ok.mod.kin T.kC ?_ hs hpl
  rw [hs]
  refine Calls.spliced_cons (thn (he.run pins s σ H _ I h) fun u s1 ⟨v, H1, I1, r1, q1⟩ => ?_)
  refine Calls.spliced_nil ⟨I1.kIn, ?_⟩
  show wpAny _ _ (call (.ref C) [u]) _ _ _
  have lim := I1.nolimit
  obtain ⟨mb, b1, b2⟩ := I1.ok.mod.blt
  have gl : s1.heap.Ns mainGlobals X.mg := I1.ok.mod.glob.keeps I1.bk
  have bl : ∃ mb, s1.heap.Ns builtinsNs mb ∧ mb "super" = some (.type "super") := ⟨mb, b1.keeps I1.bk, (b2 _ (by decide)).trans Boot.«super»⟩
  obtain ⟨g0, gs, dr, t, os⟩ := s1
  refine wpAny_call (bt_made T I1.kIn gl bl lim (by have := hr.dp; omega) fun h' t' a d M => ?_)
  obtain ⟨t1, ho⟩ := M.obj
  obtain ⟨G, ge1, ge2⟩ := restrict h' fun b => decide (b ≠ d)
  have same : ∀ b, b ≠ d → G.get? b = h'.get? b := fun b hb => ge1 b (decide_eq_true hb)
  have gone : G.get? d = none := ge2 d (by simp)
  have old : ∀ b o, g0.get? b = some o → G.get? b = some o := fun b o z => (same b (Nat.ne_of_lt (Nat.lt_of_lt_of_le (Heap.lt_size z) M.dbig))).trans (M.keep b o z)
  have na := I1.hok.fresh M.big
  have nd := I1.hok.fresh M.dbig
  have I2 : Inv X pins σ (upd H1 a (exo a C (some d))) ⟨G, gs, dr, t', os⟩ := I1.laid (t' := t') old M.big (exo_ok ((same a (Ne.symm M.dne)).trans ho))
  have I3 := I2.laidN (h' := h') (a := d) (o := exd d [("name", v)]) (t' := t') (fun b o z => by
    by_cases hb : b = d
    · rw [hb, gone] at z
      cases z
    · exact (same b hb).symm.trans z) gone (by rw [upd_ne M.dne]; exact nd) (exd_ok M.ns (relO_one r1))
  exact ⟨.ref a, _, I3, rfl, q1 a d na nd M.dne⟩
end FsBname

set_option Elab.async false
set_option linter.all false
set_option maxRecDepth 100000
set_option maxHeartbeats 4000000
/-! An own error over ValueError, by a class between: its __init__ calls super().__init__ with a fixed text, then stores its one argument as the field machine. -/
namespace FsBmachine
open PySem PySem.W PySem.Calls PyProof.Rows PySem.HandSPX
abbrev eS : Scope := { kind := .function, names := [(PySem.Str.ofString "self", .local), (PySem.Str.ofString "machine", .local), (PySem.Str.ofString "__class__", .free), (PySem.Str.ofString "super", .globalImplicit)], isGenerator := false, isCoroutine := false, more := [] }
abbrev eA (p1 p2 : Pos) : Arguments := { posonlyargs := [], args := [{ arg := "self", annotation := none, pos := p1 }, { arg := "machine", annotation := none, pos := p2 }], vararg := none, kwonlyargs := [], kw_defaults := [], kwarg := none, defaults := [] }
abbrev eB (msg : Expr) (p0 p1 p2 p3 p4 p5 p6 p7 p8 : Pos) : List Stmt := [.Expr (.Call (.Attribute (.Call (.Name "super" p0) [] [] p1) "__init__" p2) [msg] [] p3) p4, .Assign [.Attribute (.Name "self" p5) "machine" p6] (.Name "machine" p7) p8]
/-- the message -/
abbrev eM (z : Str) (q0 : Pos) : Expr := .Constant (.str z) 0 q0
abbrev mroVE : List Value := [.type "ValueError", .type "Exception", .type "BaseException", .type "object"]
/-- what the written part says of the class at C, and of its __init__, at fI -/
structure ErrTxt (prog : Program) (K : Frag) (mg : Str → Option Value) (x : Str) (C fI : Addr) : Prop where
  gC : mg x = some (.ref C)
  cls : ∃ nm q N bs bm sn sub ab col dd k0 k1 k2 k3 k5, K.lookup C = some (excClassObj nm q C N bs bm true sn sub ab col dd k0 k1 k2 k3 k5 "ValueError.__new__") ∧ refsVE bm = true
  ei : excInitIn K C mroVE "ValueError.__new__" = true
  sa : findIn K (.ref C) "__setattr__" = some (some (.builtin "object.__setattr__"))
  noN : findIn K (.ref C) "machine" = some none
  iC : findIn K (.ref C) "__init__" = some (some (.ref fI))
  tC : typeIn K (.ref fI) = some (.type "function")
  kC : keepIn K (.ref C) = true
  exC : subIn K (.ref C) (.type "BaseException") = some true
  veC : subIn K (.ref C) (.type "ValueError") = some true
  tyC : typeIn K (.ref C) = some (.type "type")
  slf : mroIn K C (.ref C) = some true
  sup : ks_superIn K C C "__init__" = some (some (.builtin "ValueError.__init__"))
  opq : nsIn K cStatics "thirdparty.any" = some none
  gs : mg "super" = none
  top : (prog.main.scope.names.lookup ("super" : Str)).isSome = false
  fn : ∃ (oc : Value) (od an : Option Addr) (kV doc pm ct : Value) (osl : Array (Option Value)) (qual : Str) (cda cc : Addr) (ccl cl : Value) (cdd cld : Option Addr) (ccs csl : Array (Option Value)) (vs : Array Value) (file : Str) (tf : Tok) (zM : Str) (p1 p2 q0 r0 r1 r2 r3 r4 r5 r6 r7 r8 : Pos),
    K.lookup fI = some ⟨oc, od, .func (ksFn "__init__" qual (eA p1 p2) (eB (eM zM q0) r0 r1 r2 r3 r4 r5 r6 r7 r8) eS .none kV doc pm an (.ref cda) ct cc), osl⟩ ∧ codeIn K (.ref cda) qual = true ∧
    K.lookup cda = some ⟨ccl, cdd, .fields vs, ccs⟩ ∧ vs[2]? = some (.str file tf) ∧ ((prog.main.file : Str) == file) = true ∧ K.lookup cc = some ⟨cl, cld, .cell (some (.ref C)), csl⟩ ∧ zM.length ≤ 1000 ∧ (r2.endLine == r3.line) = true
theorem call_line {o : Expr} {name : Str} {apos pos : Pos} {a : Expr} {env : Env} (hp : (apos.endLine == pos.line) = true) (hs : starEach [a] env = (false, eval a env) :: starEach [] env) : eval (.Call (.Attribute o name apos) [a] [] pos) env = (do
      let ov ← attributeBase o name env (eval o env)
      standAt apos.atName
      let (f, first) ← holding [ov] (getMethod ov name (do return (← importBound o env).getD true))
      callWith pos f first (backTo pos (starEach [a] env)) []) := by
  show (do
      let ov ← attributeBase o name env (eval o env)
      standAt apos.atName
      methodCall o name apos pos env ov 1 (backTo pos (starEach [a] env)) []) = _
  have e : methodCallForm 1 (backTo pos (starEach [a] env)) [] = true := by
    rw [hs]
    rfl
  unfold methodCall
  rw [e]
  unfold methodCallPos calleeOf
  rw [hp]
  simp only [Bool.not_true, Bool.false_or, if_true, pure_bind]
/-- what __init__ leaves of a fresh exception at x, over the heap h -/
structure BtEnd (h h' : Heap) (x C dx t1 : Addr) (v : Value) : Prop where
  keep : ∀ b o, h.get? b = some o → h'.get? b = some o
  obj : h'.get? x = some { cls := .ref C, dict := some dx, data := .fields #[.ref t1, .none, .none, .none, .bool false, .none] }
  dbig : h.objs.size ≤ dx
  dne : dx ≠ x
  ns : h'.Ns1 dx (fun y => if y = "machine" then some v else none)
theorem str_len2 (a b : Str) : (a ++ b).length = a.length + b.length := by
  show (a.cps ++ b.cps).size = _
  rw [Array.size_append]
  rfl
theorem len1 (v : Value) : [v].length ≤ sizeLine := by
  rw [sizeLine_eq]
  exact (by decide : 1 ≤ 16777216)
section
variable {prog : Program} {w : World} {A : Around} {E : Value → Shared → Prop} {R : Result → Shared → Prop} {s : Shared} {K : Frag} {mg : Str → Option Value} {x0 : Str} {C fI : Addr}
theorem bt_init (T : ErrTxt prog K mg x0 C fI) {hp : Heap} {x t0 : Addr} {v : Value} (X : K.In hp) (G : hp.Ns mainGlobals mg) (Bl : ∃ mb, hp.Ns builtinsNs mb ∧ mb "super" = some (.type "super")) (hlim : s.heap.NoLimit)
    (k : ∀ b o, hp.get? b = some o → s.heap.get? b = some o) (hsz : hp.objs.size ≤ s.heap.objs.size) (hx : s.heap.get? x = some (excO C t0)) (hxn : hp.get? x = none) (hroom : A.depth < recursionLimit)
    (hq : ∀ h' tk' dx t1, BtEnd hp h' x C dx t1 v → R (.ok (.ret .none)) { s with heap := h', toks := tk' }) :
    codeAny (model prog w) A (.call (.ref fI) ⟨[.ref x, v], []⟩) R s := by
  obtain ⟨oc, od, an, kV, doc, pm, ct, osl, qual, cda, cc, ccl, cl, cdd, cld, ccs, csl, vs, file, tf, zM, p1, p2, q0, r0, r1, r2, r3, r4, r5, r6, r7, r8, ho, hcd, hcode, hvs, hfile, hcell, hM, hline⟩ := T.fn
  obtain ⟨nm, q, N, bs, bm, sn, sub, ab, col, dd, k0, k1, k2, k3, k5, hC, hbm⟩ := T.cls
  obtain ⟨mb, hb, hmb⟩ := Bl
  have hcl : clsIn K C = some { name := nm, bases := bs, mro := .ref C :: bm, ns := N, qualname := q, hasDict := true, slotNames := sn, subclasses := sub, abstract := ab, collection := col, hasDel := false } := by unfold clsIn; rw [hC] <;> rfl
  have Xs : K.In s.heap := X.keeps k
  have noc : ∀ y ∈ eS.names, y.2 ≠ .cell := by decide +kernel
  have locs : ∀ y ∈ [(("self" : Str), Value.ref x), ("machine", v)], eS.names.lookup y.1 = some .local := fun y hy => by
    rcases List.mem_cons.mp hy with rfl | hy
    · rfl
    · rw [List.mem_singleton.mp hy]
      rfl
  refine ks_codeAny_call_defAt (body := eB (eM zM q0) r0 r1 r2 r3 r4 r5 r6 r7 r8) (binds := [("self", .ref x), ("machine", v)]) hroom (Xs _ _ ho) rfl hlim (codeRec_of Xs hcd) rfl (BindsTo.of_eq (by first | rfl | with_unfolding_all rfl)) noc locs (fun h₁ hns hk₁ => ?_) rfl rfl rfl
  have Fr1 : Fr hp s.heap.objs.size h₁ (fun y => [(("self" : Str), Value.ref x), ("machine", v)].reverse.lookup y) := ⟨hns, fun b o e => hk₁ b o (k b o e), hsz⟩
  have N1 : News hp s.heap.objs.size h₁ [(x, excObj C t0 none .none)] := fun p hp' => by
    rw [List.mem_singleton.mp hp']
    exact ⟨hk₁ _ _ hx, Nat.ne_of_lt (Heap.lt_size hx), hxn⟩
  show _root_.PySem.wpAt (model prog w) _ (.func _ (ksEnv qual eS s.heap.objs.size fI (.ref cda) cc)) (execs (eB (eM zM q0) r0 r1 r2 r3 r4 r5 r6 r7 r8) (ksEnv qual eS s.heap.objs.size fI (.ref cda) cc)) _ _ _
  refine ks_wpAt_execs_cons (ks_wpAt_Expr_any (ks_wpAt_MethodCall ?_ (call_line hline rfl)))
  generalize hE : (fun e s' => wpAny (model prog w) _ (leaving _ e) (fun x s'' => R (Except.error e) s'') (fun e' s'' => R (Except.error e') s'') s') = EE
  have X1 : K.In h₁ := X.keeps Fr1.keep
  -- super()
  refine ks_wpAt_super_base (env := ksEnv qual eS s.heap.objs.size fI (.ref cda) cc) rfl rfl rfl rfl (X1 _ _ ho) rfl rfl rfl (X1 _ _ hcode) rfl hvs hfile T.top ?_
  refine ks_loadName_global rfl rfl (loadGlobal_builtin (env := ksEnv qual eS s.heap.objs.size fI (.ref cda) cc) (G.keeps Fr1.keep) T.gs (hb.keeps Fr1.keep) hmb ⟨rfl, ?_⟩)
  refine wpAny_loadName_free rfl rfl rfl ⟨_, X1 _ _ hcell, rfl⟩ ?_
  refine wpAny_loadName_local (v := .ref x) rfl rfl hns rfl ?_
  refine ks_wpAny_isType_cls (X1 _ _ hC) rfl ⟨rfl, ?_⟩
  refine ks_wpAny_call_super (X1 _ _ hC) rfl (hk₁ _ _ hx) rfl (fun c z => by cases z) (looks_mroIn X1 T.slf) (fun h2 hso k2 => ?_)
  obtain ⟨F2, N2, l2⟩ := ks_newsPush (s := ⟨h₁, s.gens, s.drawn, s.toks + 2, s.os⟩) Fr1 N1 rfl hso k2
  -- its __init__, bound
  refine kxs_method kxs_ValueError F2 X N2 (List.mem_cons_self ..) (InstAt.of_exc0 (c2 := .none) (t := t0) N2 (List.mem_cons_of_mem _ (List.mem_cons_self ..))) T.opq T.sup T.veC rfl (fun u h3 F3 N3 l3 => ?_)
  refine kxs_callWith1 N3 (List.mem_cons_self ..) ?_ rfl rfl
  refine Calls.spliced_cons ?_
  show wpAny _ _ (eval (eM zM q0) (ksEnv qual eS s.heap.objs.size fI (.ref cda) cc)) _ _ _
  refine Calls.Constant_str ?_
  refine Calls.spliced_nil ⟨kxs_at N3 (List.mem_cons_self ..), ?_⟩
  have nx1 : h₁.objs.size ≠ x := fun z => Nat.lt_irrefl _ (z ▸ l2 _ (List.mem_cons_self ..) : x < x)
  have nx2 : u ≠ x := fun z => Nat.lt_irrefl _ (z ▸ l3 _ (List.mem_cons_of_mem _ (List.mem_cons_self ..)) : x < x)
  refine kxs_call F3 X N3 PySem.F.excBase_ValueError T.ei (List.mem_cons_self ..) (.tail nx2 (.tail nx1 (.head fun p hp' => by cases hp'))) (len1 _) (fun t' h4 F4 N4 l4 => ?_)
  -- self.field = field
  have X4 : K.In h4 := X.keeps F4.keep
  have hx4 : h4.get? x = some (excO C t') := (N4 (x, excObj C t' none .none) (List.mem_cons_of_mem _ (List.mem_cons_of_mem _ (List.mem_cons_of_mem _ (List.mem_cons_self ..))))).1
  refine wpAt_of_wpAny (wpAny_execs_cons (plainObj_wpAny_Assign_Attribute ?_))
  refine wpAny_Name (wpAny_loadName_local (v := v) rfl rfl F4.ns rfl ?_) rfl
  refine wpAny_Name (wpAny_loadName_local (v := .ref x) rfl rfl F4.ns rfl ?_) rfl
  refine set_plain X4 (ox := excO C t') (od := none) ⟨hx4, rfl, rfl, trivial⟩ T.sa ?_
  refine exc_osa X4 hx4 hcl (show refsVE (.ref C :: bm) = true from hbm) rfl T.noN (fun h5 tk5 dx k5 dn dne hx5 hn5 => ?_)
  have zz : s.heap.objs.size < h4.objs.size := F4.ns.lt
  exact wpAny_execs_nil (hq h5 tk5 dx t' ⟨fun b o e => k5 b o (fun z => by rw [z, hxn] at e; cases e) (F4.keep b o e), hx5, Nat.le_trans hsz (Nat.le_trans (Nat.le_of_lt zz) dn), dne, hn5⟩)
end
/-- a made one -/
structure BtMade (h h' : Heap) (e C d : Addr) (v : Value) : Prop where
  keep : ∀ b o, h.get? b = some o → h'.get? b = some o
  big : h.objs.size ≤ e
  obj : ∃ t1 : Addr, h'.get? e = some { cls := .ref C, dict := some d, data := .fields #[.ref t1, .none, .none, .none, .bool false, .none] }
  dbig : h.objs.size ≤ d
  dne : d ≠ e
  ns : h'.Ns1 d (fun y => if y = "machine" then some v else none)
section
variable {prog : Program} {w : World} {A : Around} {R : Result → Shared → Prop} {s : Shared} {K : Frag} {mg : Str → Option Value} {x0 : Str} {C fI : Addr}
theorem bt_made (T : ErrTxt prog K mg x0 C fI) {v : Value} (X : K.In s.heap) (G : s.heap.Ns mainGlobals mg) (Bl : ∃ mb, s.heap.Ns builtinsNs mb ∧ mb "super" = some (.type "super")) (hlim : s.heap.NoLimit) (hroom : A.depth + 1 < recursionLimit)
    (hq : ∀ h' tk' e d, BtMade s.heap h' e C d v → R (.ok (.ret (.ref e))) { s with heap := h', toks := tk' }) : codeAny (model prog w) A (.call (.ref C) ⟨[v], []⟩) R s := by
  obtain ⟨nm, q, N, bs, bm, sn, sub, ab, col, dd, k0, k1, k2, k3, k5, hC, hbm⟩ := T.cls
  obtain ⟨g0, gs, dr, t, os⟩ := s
  let g2 : Heap := (g0.push (kdv_tup [v])).push (excO C g0.objs.size)
  have up : ∀ b o, g0.get? b = some o → g2.get? b = some o := fun b o e => Heap.get?_push_of_some _ (Heap.get?_push_of_some _ e)
  have at1 : g2.get? (g0.objs.size + 1) = some (excO C g0.objs.size) := by
    show ((g0.push (kdv_tup [v])).push (excO C g0.objs.size)).get? (g0.objs.size + 1) = _
    heap_get
  have sz2 : g2.objs.size = g0.objs.size + 1 + 1 := by
    show ((g0.push (kdv_tup [v])).push (excO C g0.objs.size)).objs.size = _
    rw [Heap.size_push, Heap.size_push]
  have free1 : g0.get? (g0.objs.size + 1) = none := by
    cases e : g0.get? (g0.objs.size + 1) with
    | none => rfl
    | some o => exact absurd (Nat.lt_of_succ_lt (Heap.lt_size e)) (Nat.lt_irrefl _)
  refine call_own F.excBase_ValueError (fun Y => refsVE_contains Y bm hbm) (X _ _ hC) (looks_findIn X T.iC) (fun self => bind_fn X self T.tC) (len1 _) ?_
  refine bt_init (s := ⟨g2, gs, dr, t, os⟩) (hp := g0) T X G Bl (hlim.keeps up) up (by show g0.objs.size ≤ g2.objs.size; omega) at1 free1 hroom fun h' t' dx t1 ⟨k, ho, dbig, dne, hns⟩ => ?_
  exact ⟨rfl, hq h' t' (g0.objs.size + 1) dx ⟨k, Nat.le_succ _, ⟨t1, ho⟩, dbig, dne, hns⟩⟩
end
end FsBmachine
namespace FsBmachine
open PySem PySem.Spec PyProof.Rows L2
theorem relO_one {v : V} {u : Value} (r : RelV v u) (g : Str) : RelO (List.lookup g [(("machine" : Str), v)]) (if g = "machine" then some u else none) := by
  by_cases h : g = "machine"
  · rw [h, if_pos rfl, show List.lookup ("machine" : Str) [(("machine" : Str), v)] = some v by simp [List.lookup]]
    exact r
  · rw [if_neg h, show List.lookup g [(("machine" : Str), v)] = none by simp [List.lookup, show (g == "machine") = false by simpa using h]]
    trivial
/-- X(v), its one field v -/
def tNew (C : Addr) (te : TE) : TE := fun σ H Q => te σ H fun v H1 => ∀ a d, H1 a = none → H1 d = none → d ≠ a → Q (.ref a) (upd (upd H1 a (exo a C (some d))) d (exd d [("machine", v)]))
theorem pe_new {X : Cx} {C fI : Addr} {x : Str} {e : Expr} {te : TE} {p pos : Pos} (T : ErrTxt X.prog X.K X.mg x C fI) (hr : Room 2 X.A) (he : PE X e te) (hg : Gl X x) (hdb : (x == ("__debug__" : Str)) = false := by decide)
    (hs : starEach [e] X.env = (false, eval e X.env) :: starEach [] X.env := by rfl) (hpl : (backTo pos (starEach [] X.env)).any (·.1) = false := by rfl) : PE X (.Call (.Name x p) [e] [] pos) (tNew C te) := by
  refine ⟨fun pins s σ H Q I h => ?_⟩
  refine wpAny_Call_Name_kw (ld_glob I hg T.gC ?_ hdb)
  refine PySem.W.callWith_K (h₀ := X.base) I.ok.mod.kin T.kC ?_ hs hpl
  rw [hs]
  refine Calls.spliced_cons (thn (he.run pins s σ H _ I h) fun u s1 ⟨v, H1, I1, r1, q1⟩ => ?_)
  refine Calls.spliced_nil ⟨I1.kIn, ?_⟩
  show wpAny _ _ (call (.ref C) [u]) _ _ _
  have lim := I1.nolimit
  obtain ⟨mb, b1, b2⟩ := I1.ok.mod.blt
  have gl : s1.heap.Ns mainGlobals X.mg := I1.ok.mod.glob.keeps I1.bk
  have bl : ∃ mb, s1.heap.Ns builtinsNs mb ∧ mb "super" = some (.type "super") := ⟨mb, b1.keeps I1.bk, (b2 _ (by decide)).trans Boot.«super»⟩
  obtain ⟨g0, gs, dr, t, os⟩ := s1
  refine wpAny_call (bt_made T I1.kIn gl bl lim (by have := hr.dp; omega) fun h' t' a d M => ?_)
  obtain ⟨t1, ho⟩ := M.obj
  obtain ⟨G, ge1, ge2⟩ := restrict h' fun b => decide (b ≠ d)
  have same : ∀ b, b ≠ d → G.get? b = h'.get? b := fun b hb => ge1 b (decide_eq_true hb)
  have gone : G.get? d = none := ge2 d (by simp)
  have old : ∀ b o, g0.get? b = some o → G.get? b = some o := fun b o z => (same b (Nat.ne_of_lt (Nat.lt_of_lt_of_le (Heap.lt_size z) M.dbig))).trans (M.keep b o z)
  have na := I1.hok.fresh M.big
  have nd := I1.hok.fresh M.dbig
  have I2 : Inv X pins σ (upd H1 a (exo a C (some d))) ⟨G, gs, dr, t', os⟩ := I1.laid (t' := t') old M.big (exo_ok ((same a (Ne.symm M.dne)).trans ho))
  have I3 := I2.laidN (h' := h') (a := d) (o := exd d [("machine", v)]) (t' := t') (fun b o z => by
    by_cases hb : b = d
    · rw [hb, gone] at z
      cases z
    · exact (same b hb).symm.trans z) gone (by rw [upd_ne M.dne]; exact nd) (exd_ok M.ns (relO_one r1))
  exact ⟨.ref a, _, I3, rfl, q1 a d na nd M.dne⟩
end FsBmachine

set_option Elab.async false
set_option linter.all false
set_option maxRecDepth 100000
set_option maxHeartbeats 4000000
/-! An own error over ValueError, by a class between: its __init__ calls super().__init__ with a fixed text, then stores its one argument as the field channel. -/
namespace FsBchannel
open PySem PySem.W PySem.Calls PyProof.Rows PySem.HandSPX
abbrev eS : Scope := { kind := .function, names := [(PySem.Str.ofString "self", .local), (PySem.Str.ofString "channel", .local), (PySem.Str.ofString "__class__", .free), (PySem.Str.ofString "super", .globalImplicit)], isGenerator := false, isCoroutine := false, more := [] }
abbrev eA (p1 p2 : Pos) : Arguments := { posonlyargs := [], args := [{ arg := "self", annotation := none, pos := p1 }, { arg := "channel", annotation := none, pos := p2 }], vararg := none, kwonlyargs := [], kw_defaults := [], kwarg := none, defaults := [] }
abbrev eB (msg : Expr) (p0 p1 p2 p3 p4 p5 p6 p7 p8 : Pos) : List Stmt := [.Expr (.Call (.Attribute (.Call (.Name "super" p0) [] [] p1) "__init__" p2) [msg] [] p3) p4, .Assign [.Attribute (.Name "self" p5) "channel" p6] (.Name "channel" p7) p8]
/-- the message -/
abbrev eM (z : Str) (q0 : Pos) : Expr := .Constant (.str z) 0 q0
abbrev mroVE : List Value := [.type "ValueError", .type "Exception", .type "BaseException", .type "object"]
/-- what the written part says of the class at C, and of its __init__, at fI -/
structure ErrTxt (prog : Program) (K : Frag) (mg : Str → Option Value) (x : Str) (C fI : Addr) : Prop where
  gC : mg x = some (.ref C)
  cls : ∃ nm q N bs bm sn sub ab col dd k0 k1 k2 k3 k5, K.lookup C = some (excClassObj nm q C N bs bm true sn sub ab col dd k0 k1 k2 k3 k5 "ValueError.__new__") ∧ refsVE bm = true
  ei : excInitIn K C mroVE "ValueError.__new__" = true
  sa : findIn K (.ref C) "__setattr__" = some (some (.builtin "object.__setattr__"))
  noN : findIn K (.ref C) "channel" = some none
  iC : findIn K (.ref C) "__init__" = some (some (.ref fI))
  tC : typeIn K (.ref fI) = some (.type "function")
  kC : keepIn K (.ref C) = true
  exC : subIn K (.ref C) (.type "BaseException") = some true
  veC : subIn K (.ref C) (.type "ValueError") = some true
  tyC : typeIn K (.ref C) = some (.type "type")
  slf : mroIn K C (.ref C) = some true
  sup : ks_superIn K C C "__init__" = some (some (.builtin "ValueError.__init__"))
  opq : nsIn K cStatics "thirdparty.any" = some none
  gs : mg "super" = none
  top : (prog.main.scope.names.lookup ("super" : Str)).isSome = false
  fn : ∃ (oc : Value) (od an : Option Addr) (kV doc pm ct : Value) (osl : Array (Option Value)) (qual : Str) (cda cc : Addr) (ccl cl : Value) (cdd cld : Option Addr) (ccs csl : Array (Option Value)) (vs : Array Value) (file : Str) (tf : Tok) (zM : Str) (p1 p2 q0 r0 r1 r2 r3 r4 r5 r6 r7 r8 : Pos),
    K.lookup fI = some ⟨oc, od, .func (ksFn "__init__" qual (eA p1 p2) (eB (eM zM q0) r0 r1 r2 r3 r4 r5 r6 r7 r8) eS .none kV doc pm an (.ref cda) ct cc), osl⟩ ∧ codeIn K (.ref cda) qual = true ∧
    K.lookup cda = some ⟨ccl, cdd, .fields vs, ccs⟩ ∧ vs[2]? = some (.str file tf) ∧ ((prog.main.file : Str) == file) = true ∧ K.lookup cc = some ⟨cl, cld, .cell (some (.ref C)), csl⟩ ∧ zM.length ≤ 1000 ∧ (r2.endLine == r3.line) = true
theorem call_line {o : Expr} {name : Str} {apos pos : Pos} {a : Expr} {env : Env} (hp : (apos.endLine == pos.line) = true) (hs : starEach [a] env = (false, eval a env) :: starEach [] env) : eval (.Call (.Attribute o name apos) [a] [] pos) env = (do
      let ov ← attributeBase o name env (eval o env)
      standAt apos.atName
      let (f, first) ← holding [ov] (getMethod ov name (do return (← importBound o env).getD true))
      callWith pos f first (backTo pos (starEach [a] env)) []) := by
  show (do
      let ov ← attributeBase o name env (eval o env)
      standAt apos.atName
      methodCall o name apos pos env ov 1 (backTo pos (starEach [a] env)) []) = _
  have e : methodCallForm 1 (backTo pos (starEach [a] env)) [] = true := by
    rw [hs]
    rfl
  unfold methodCall
  rw [e]
  unfold methodCallPos calleeOf
  rw [hp]
  simp only [Bool.not_true, Bool.false_or, if_true, pure_bind]
/-- what __init__ leaves of a fresh exception at x, over the heap h -/
structure BtEnd (h h' : Heap) (x C dx t1 : Addr) (v : Value) : Prop where
  keep : ∀ b o, h.get? b = some o → h'.get? b = some o
  obj : h'.get? x = some { cls := .ref C, dict := some dx, data := .fields #[.ref t1, .none, .none, .none, .bool false, .none] }
  dbig : h.objs.size ≤ dx
  dne : dx ≠ x
  ns : h'.Ns1 dx (fun y => if y = "channel" then some v else none)
theorem str_len2 (a b : Str) : (a ++ b).length = a.length + b.length := by
  show (a.cps ++ b.cps).size = _
  rw [Array.size_append]
  rfl
theorem len1 (v : Value) : [v].length ≤ sizeLine := by
  rw [sizeLine_eq]
  exact (by decide : 1 ≤ 16777216)
section
variable {prog : Program} {w : World} {A : Around} {E : Value → Shared → Prop} {R : Result → Shared → Prop} {s : Shared} {K : Frag} {mg : Str → Option Value} {x0 : Str} {C fI : Addr}
theorem bt_init (T : ErrTxt prog K mg x0 C fI) {hp : Heap} {x t0 : Addr} {v : Value} (X : K.In hp) (G : hp.Ns mainGlobals mg) (Bl : ∃ mb, hp.Ns builtinsNs mb ∧ mb "super" = some (.type "super")) (hlim : s.heap.NoLimit)
    (k : ∀ b o, hp.get? b = some o → s.heap.get? b = some o) (hsz : hp.objs.size ≤ s.heap.objs.size) (hx : s.heap.get? x = some (excO C t0)) (hxn : hp.get? x = none) (hroom : A.depth < recursionLimit)
    (hq : ∀ h' tk' dx t1, BtEnd hp h' x C dx t1 v → R (.ok (.ret .none)) { s with heap := h', toks := tk' }) :
    codeAny (model prog w) A (.call (.ref fI) ⟨[.ref x, v], []⟩) R s := by
  obtain ⟨oc, od, an, kV, doc, pm, ct, osl, qual, cda, cc, ccl, cl, cdd, cld, ccs, csl, vs, file, tf, zM, p1, p2, q0, r0, r1, r2, r3, r4, r5, r6, r7, r8, ho, hcd, hcode, hvs, hfile, hcell, hM, hline⟩ := T.fn
  obtain ⟨nm, q, N, bs, bm, sn, sub, ab, col, dd, k0, k1, k2, k3, k5, hC, hbm⟩ := T.cls
  obtain ⟨mb, hb, hmb⟩ := Bl
  have hcl : clsIn K C = some { name := nm, bases := bs, mro := .ref C :: bm, ns := N, qualname := q, hasDict := true, slotNames := sn, subclasses := sub, abstract := ab, collection := col, hasDel := false } := by unfold clsIn; rw [hC] <;> rfl
  have Xs : K.In s.heap := X.keeps k
  have noc : ∀ y ∈ eS.names, y.2 ≠ .cell := by decide +kernel
  have locs : ∀ y ∈ [(("self" : Str), Value.ref x), ("channel", v)], eS.names.lookup y.1 = some .local := fun y hy => by
    rcases List.mem_cons.mp hy with rfl | hy
    · rfl
    · rw [List.mem_singleton.mp hy]
      rfl
  refine ks_codeAny_call_defAt (body := eB (eM zM q0) r0 r1 r2 r3 r4 r5 r6 r7 r8) (binds := [("self", .ref x), ("channel", v)]) hroom (Xs _ _ ho) rfl hlim (codeRec_of Xs hcd) rfl (BindsTo.of_eq (by first | rfl | with_unfolding_all rfl)) noc locs (fun h₁ hns hk₁ => ?_) rfl rfl rfl
  have Fr1 : Fr hp s.heap.objs.size h₁ (fun y => [(("self" : Str), Value.ref x), ("channel", v)].reverse.lookup y) := ⟨hns, fun b o e => hk₁ b o (k b o e), hsz⟩
  have N1 : News hp s.heap.objs.size h₁ [(x, excObj C t0 none .none)] := fun p hp' => by
    rw [List.mem_singleton.mp hp']
    exact ⟨hk₁ _ _ hx, Nat.ne_of_lt (Heap.lt_size hx), hxn⟩
  show _root_.PySem.wpAt (model prog w) _ (.func _ (ksEnv qual eS s.heap.objs.size fI (.ref cda) cc)) (execs (eB (eM zM q0) r0 r1 r2 r3 r4 r5 r6 r7 r8) (ksEnv qual eS s.heap.objs.size fI (.ref cda) cc)) _ _ _
  refine ks_wpAt_execs_cons (ks_wpAt_Expr_any (ks_wpAt_MethodCall ?_ (call_line hline rfl)))
  generalize hE : (fun e s' => wpAny (model prog w) _ (leaving _ e) (fun x s'' => R (Except.error e) s'') (fun e' s'' => R (Except.error e') s'') s') = EE
  have X1 : K.In h₁ := X.keeps Fr1.keep
  -- super()
  refine ks_wpAt_super_base (env := ksEnv qual eS s.heap.objs.size fI (.ref cda) cc) rfl rfl rfl rfl (X1 _ _ ho) rfl rfl rfl (X1 _ _ hcode) rfl hvs hfile T.top ?_
  refine ks_loadName_global rfl rfl (loadGlobal_builtin (env := ksEnv qual eS s.heap.objs.size fI (.ref cda) cc) (G.keeps Fr1.keep) T.gs (hb.keeps Fr1.keep) hmb ⟨rfl, ?_⟩)
  refine wpAny_loadName_free rfl rfl rfl ⟨_, X1 _ _ hcell, rfl⟩ ?_
  refine wpAny_loadName_local (v := .ref x) rfl rfl hns rfl ?_
  refine ks_wpAny_isType_cls (X1 _ _ hC) rfl ⟨rfl, ?_⟩
  refine ks_wpAny_call_super (X1 _ _ hC) rfl (hk₁ _ _ hx) rfl (fun c z => by cases z) (looks_mroIn X1 T.slf) (fun h2 hso k2 => ?_)
  obtain ⟨F2, N2, l2⟩ := ks_newsPush (s := ⟨h₁, s.gens, s.drawn, s.toks + 2, s.os⟩) Fr1 N1 rfl hso k2
  -- its __init__, bound
  refine kxs_method kxs_ValueError F2 X N2 (List.mem_cons_self ..) (InstAt.of_exc0 (c2 := .none) (t := t0) N2 (List.mem_cons_of_mem _ (List.mem_cons_self ..))) T.opq T.sup T.veC rfl (fun u h3 F3 N3 l3 => ?_)
  refine kxs_callWith1 N3 (List.mem_cons_self ..) ?_ rfl rfl
  refine Calls.spliced_cons ?_
  show wpAny _ _ (eval (eM zM q0) (ksEnv qual eS s.heap.objs.size fI (.ref cda) cc)) _ _ _
  refine Calls.Constant_str ?_
  refine Calls.spliced_nil ⟨kxs_at N3 (List.mem_cons_self ..), ?_⟩
  have nx1 : h₁.objs.size ≠ x := fun z => Nat.lt_irrefl _ (z ▸ l2 _ (List.mem_cons_self ..) : x < x)
  have nx2 : u ≠ x := fun z => Nat.lt_irrefl _ (z ▸ l3 _ (List.mem_cons_of_mem _ (List.mem_cons_self ..)) : x < x)
  refine kxs_call F3 X N3 PySem.F.excBase_ValueError T.ei (List.mem_cons_self ..) (.tail nx2 (.tail nx1 (.head fun p hp' => by cases hp'))) (len1 _) (fun t' h4 F4 N4 l4 => ?_)
  -- self.field = field
  have X4 : K.In h4 := X.keeps F4.keep
  have hx4 : h4.get? x = some (excO C t') := (N4 (x, excObj C t' none .none) (List.mem_cons_of_mem _ (List.mem_cons_of_mem _ (List.mem_cons_of_mem _ (List.mem_cons_self ..))))).1
  refine wpAt_of_wpAny (wpAny_execs_cons (plainObj_wpAny_Assign_Attribute ?_))
  refine wpAny_Name (wpAny_loadName_local (v := v) rfl rfl F4.ns rfl ?_) rfl
  refine wpAny_Name (wpAny_loadName_local (v := .ref x) rfl rfl F4.ns rfl ?_) rfl
  refine set_plain X4 (ox := excO C t') (od := none) ⟨hx4, rfl, rfl, trivial⟩ T.sa ?_
  refine exc_osa X4 hx4 hcl (show refsVE (.ref C :: bm) = true from hbm) rfl T.noN (fun h5 tk5 dx k5 dn dne hx5 hn5 => ?_)
  have zz : s.heap.objs.size < h4.objs.size := F4.ns.lt
  exact wpAny_execs_nil (hq h5 tk5 dx t' ⟨fun b o e => k5 b o (fun z => by rw [z, hxn] at e; cases e) (F4.keep b o e), hx5, Nat.le_trans hsz (Nat.le_trans (Nat.le_of_lt zz) dn), dne, hn5⟩)
end
/-- a made one -/
structure BtMade (h h' : Heap) (e C d : Addr) (v : Value) : Prop where
  keep : ∀ b o, h.get? b = some o → h'.get? b = some o
  big : h.objs.size ≤ e
  obj : ∃ t1 : Addr, h'.get? e = some { cls := .ref C, dict := some d, data := .fields #[.ref t1, .none, .none, .none, .bool false, .none] }
  dbig : h.objs.size ≤ d
  dne : d ≠ e
  ns : h'.Ns1 d (fun y => if y = "channel" then some v else none)
section
variable {prog : Program} {w : World} {A : Around} {R : Result → Shared → Prop} {s : Shared} {K : Frag} {mg : Str → Option Value} {x0 : Str} {C fI : Addr}
theorem bt_made (T : ErrTxt prog K mg x0 C fI) {v : Value} (X : K.In s.heap) (G : s.heap.Ns mainGlobals mg) (Bl : ∃ mb, s.heap.Ns builtinsNs mb ∧ mb "super" = some (.type "super")) (hlim : s.heap.NoLimit) (hroom : A.depth + 1 < recursionLimit)
    (hq : ∀ h' tk' e d, BtMade s.heap h' e C d v → R (.ok (.ret (.ref e))) { s with heap := h', toks := tk' }) : codeAny (model prog w) A (.call (.ref C) ⟨[v], []⟩) R s := by
  obtain ⟨nm, q, N, bs, bm, sn, sub, ab, col, dd, k0, k1, k2, k3, k5, hC, hbm⟩ := T.cls
  obtain ⟨g0, gs, dr, t, os⟩ := s
  let g2 : Heap := (g0.push (kdv_tup [v])).push (excO C g0.objs.size)
  have up : ∀ b o, g0.get? b = some o → g2.get? b = some o := fun b o e => Heap.get?_push_of_some _ (Heap.get?_push_of_some _ e)
  have at1 : g2.get? (g0.objs.size + 1) = some (excO C g0.objs.size) := by
    show ((g0.push (kdv_tup [v])).push (excO C g0.objs.size)).get? (g0.objs.size + 1) = _
    heap_get
  have sz2 : g2.objs.size = g0.objs.size + 1 + 1 := by
    show ((g0.push (kdv_tup [v])).push (excO C g0.objs.size)).objs.size = _
    rw [Heap.size_push, Heap.size_push]
  have free1 : g0.get? (g0.objs.size + 1) = none := by
    cases e : g0.get? (g0.objs.size + 1) with
    | none => rfl
    | some o => exact absurd (Nat.lt_of_succ_lt (Heap.lt_size e)) (Nat.lt_irrefl _)
  refine call_own F.excBase_ValueError (fun Y => refsVE_contains Y bm hbm) (X _ _ hC) (looks_findIn X T.iC) (fun self => bind_fn X self T.tC) (len1 _) ?_
  refine bt_init (s := ⟨g2, gs, dr, t, os⟩) (hp := g0) T X G Bl (hlim.keeps up) up (by show g0.objs.size ≤ g2.objs.size; omega) at1 free1 hroom fun h' t' dx t1 ⟨k, ho, dbig, dne, hns⟩ => ?_
  exact ⟨rfl, hq h' t' (g0.objs.size + 1) dx ⟨k, Nat.le_succ _, ⟨t1, ho⟩, dbig, dne, hns⟩⟩
end
end FsBchannel
namespace FsBchannel
open PySem PySem.Spec PyProof.Rows L2
theorem relO_one {v : V} {u : Value} (r : RelV v u) (g : Str) : RelO (List.lookup g [(("channel" : Str), v)]) (if g = "channel" then some u else none) := by
  by_cases h : g = "channel"
  · rw [h, if_pos rfl, show List.lookup ("channel" : Str) [(("channel" : Str), v)] = some v by simp [List.lookup]]
    exact r
  · rw [if_neg h, show List.lookup g [(("channel" : Str), v)] = none by simp [List.lookup, show (g == "channel") = false by simpa using h]]
    trivial
/-- X(v), its one field v -/
def tNew (C : Addr) (te : TE) : TE := fun σ H Q => te σ H fun v H1 => ∀ a d, H1 a = none → H1 d = none → d ≠ a → Q (.ref a) (upd (upd H1 a (exo a C (some d))) d (exd d [("channel", v)]))
theorem pe_new {X : Cx} {C fI : Addr} {x : Str} {e : Expr} {te : TE} {p pos : Pos} (T : ErrTxt X.prog X.K X.mg x C fI) (hr : Room 2 X.A) (he : PE X e te) (hg : Gl X x) (hdb : (x == ("__debug__" : Str)) = false := by decide)
    (hs : starEach [e] X.env = (false, eval e X.env) :: starEach [] X.env := by rfl) (hpl : (backTo pos (starEach [] X.env)).any (·.1) = false := by rfl) : PE X (.Call (.Name x p) [e] [] pos) (tNew C te) := by
  refine ⟨fun pins s σ H Q I h => ?_⟩
  refine wpAny_Call_Name_kw (ld_glob I hg T.gC ?_ hdb)
  refine PySem.W.callWith_K (h₀ := X.base) I.ok.mod.kin T.kC ?_ hs hpl
  rw [hs]
  refine Calls.spliced_cons (thn (he.run pins s σ H _ I h) fun u s1 ⟨v, H1, I1, r1, q1⟩ => ?_)
  refine Calls.spliced_nil ⟨I1.kIn, ?_⟩
  show wpAny _ _ (call (.ref C) [u]) _ _ _
  have lim := I1.nolimit
  obtain ⟨mb, b1, b2⟩ := I1.ok.mod.blt
  have gl : s1.heap.Ns mainGlobals X.mg := I1.ok.mod.glob.keeps I1.bk
  have bl : ∃ mb, s1.heap.Ns builtinsNs mb ∧ mb "super" = some (.type "super") := ⟨mb, b1.keeps I1.bk, (b2 _ (by decide)).trans Boot.«super»⟩
  obtain ⟨g0, gs, dr, t, os⟩ := s1
  refine wpAny_call (bt_made T I1.kIn gl bl lim (by have := hr.dp; omega) fun h' t' a d M => ?_)
  obtain ⟨t1, ho⟩ := M.obj
  obtain ⟨G, ge1, ge2⟩ := restrict h' fun b => decide (b ≠ d)
  have same : ∀ b, b ≠ d → G.get? b = h'.get? b := fun b hb => ge1 b (decide_eq_true hb)
  have gone : G.get? d = none := ge2 d (by simp)
  have old : ∀ b o, g0.get? b = some o → G.get? b = some o := fun b o z => (same b (Nat.ne_of_lt (Nat.lt_of_lt_of_le (Heap.lt_size z) M.dbig))).trans (M.keep b o z)
  have na := I1.hok.fresh M.big
  have nd := I1.hok.fresh M.dbig
  have I2 : Inv X pins σ (upd H1 a (exo a C (some d))) ⟨G, gs, dr, t', os⟩ := I1.laid (t' := t') old M.big (exo_ok ((same a (Ne.symm M.dne)).trans ho))
  have I3 := I2.laidN (h' := h') (a := d) (o := exd d [("channel", v)]) (t' := t') (fun b o z => by
    by_cases hb : b = d
    · rw [hb, gone] at z
      cases z
    · exact (same b hb).symm.trans z) gone (by rw [upd_ne M.dne]; exact nd) (exd_ok M.ns (relO_one r1))
  exact ⟨.ref a, _, I3, rfl, q1 a d na nd M.dne⟩
end FsBchannel

set_option Elab.async false
set_option linter.all false
set_option maxRecDepth 100000
set_option maxHeartbeats 4000000
/-! An own error over ValueError, by a class between: its __init__ calls super().__init__ with a fixed text, then stores its one argument as the field place. -/
namespace FsBplace
open PySem PySem.W PySem.Calls PyProof.Rows PySem.HandSPX
abbrev eS : Scope := { kind := .function, names := [(PySem.Str.ofString "self", .local), (PySem.Str.ofString "place", .local), (PySem.Str.ofString "__class__", .free), (PySem.Str.ofString "super", .globalImplicit)], isGenerator := false, isCoroutine := false, more := [] }
abbrev eA (p1 p2 : Pos) : Arguments := { posonlyargs := [], args := [{ arg := "self", annotation := none, pos := p1 }, { arg := "place", annotation := none, pos := p2 }], vararg := none, kwonlyargs := [], kw_defaults := [], kwarg := none, defaults := [] }
abbrev eB (msg : Expr) (p0 p1 p2 p3 p4 p5 p6 p7 p8 : Pos) : List Stmt := [.Expr (.Call (.Attribute (.Call (.Name "super" p0) [] [] p1) "__init__" p2) [msg] [] p3) p4, .Assign [.Attribute (.Name "self" p5) "place" p6] (.Name "place" p7) p8]
/-- the message -/
abbrev eM (z : Str) (q0 : Pos) : Expr := .Constant (.str z) 0 q0
abbrev mroVE : List Value := [.type "ValueError", .type "Exception", .type "BaseException", .type "object"]
/-- what the written part says of the class at C, and of its __init__, at fI -/
structure ErrTxt (prog : Program) (K : Frag) (mg : Str → Option Value) (x : Str) (C fI : Addr) : Prop where
  gC : mg x = some (.ref C)
  cls : ∃ nm q N bs bm sn sub ab col dd k0 k1 k2 k3 k5, K.lookup C = some (excClassObj nm q C N bs bm true sn sub ab col dd k0 k1 k2 k3 k5 "ValueError.__new__") ∧ refsVE bm = true
  ei : excInitIn K C mroVE "ValueError.__new__" = true
  sa : findIn K (.ref C) "__setattr__" = some (some (.builtin "object.__setattr__"))
  noN : findIn K (.ref C) "place" = some none
  iC : findIn K (.ref C) "__init__" = some (some (.ref fI))
  tC : typeIn K (.ref fI) = some (.type "function")
  kC : keepIn K (.ref C) = true
  exC : subIn K (.ref C) (.type "BaseException") = some true
  veC : subIn K (.ref C) (.type "ValueError") = some true
  tyC : typeIn K (.ref C) = some (.type "type")
  slf : mroIn K C (.ref C) = some true
  sup : ks_superIn K C C "__init__" = some (some (.builtin "ValueError.__init__"))
  opq : nsIn K cStatics "thirdparty.any" = some none
  gs : mg "super" = none
  top : (prog.main.scope.names.lookup ("super" : Str)).isSome = false
  fn : ∃ (oc : Value) (od an : Option Addr) (kV doc pm ct : Value) (osl : Array (Option Value)) (qual : Str) (cda cc : Addr) (ccl cl : Value) (cdd cld : Option Addr) (ccs csl : Array (Option Value)) (vs : Array Value) (file : Str) (tf : Tok) (zM : Str) (p1 p2 q0 r0 r1 r2 r3 r4 r5 r6 r7 r8 : Pos),
    K.lookup fI = some ⟨oc, od, .func (ksFn "__init__" qual (eA p1 p2) (eB (eM zM q0) r0 r1 r2 r3 r4 r5 r6 r7 r8) eS .none kV doc pm an (.ref cda) ct cc), osl⟩ ∧ codeIn K (.ref cda) qual = true ∧
    K.lookup cda = some ⟨ccl, cdd, .fields vs, ccs⟩ ∧ vs[2]? = some (.str file tf) ∧ ((prog.main.file : Str) == file) = true ∧ K.lookup cc = some ⟨cl, cld, .cell (some (.ref C)), csl⟩ ∧ zM.length ≤ 1000 ∧ (r2.endLine == r3.line) = true
theorem call_line {o : Expr} {name : Str} {apos pos : Pos} {a : Expr} {env : Env} (hp : (apos.endLine == pos.line) = true) (hs : starEach [a] env = (false, eval a env) :: starEach [] env) : eval (.Call (.Attribute o name apos) [a] [] pos) env = (do
      let ov ← attributeBase o name env (eval o env)
      standAt apos.atName
      let (f, first) ← holding [ov] (getMethod ov name (do return (← importBound o env).getD true))
      callWith pos f first (backTo pos (starEach [a] env)) []) := by
  show (do
      let ov ← attributeBase o name env (eval o env)
      standAt apos.atName
      methodCall o name apos pos env ov 1 (backTo pos (starEach [a] env)) []) = _
  have e : methodCallForm 1 (backTo pos (starEach [a] env)) [] = true := by
    rw [hs]
    rfl
  unfold methodCall
  rw [e]
  unfold methodCallPos calleeOf
  rw [hp]
  simp only [Bool.not_true, Bool.false_or, if_true, pure_bind]
/-- what __init__ leaves of a fresh exception at x, over the heap h -/
structure BtEnd (h h' : Heap) (x C dx t1 : Addr) (v : Value) : Prop where
  keep : ∀ b o, h.get? b = some o → h'.get? b = some o
  obj : h'.get? x = some { cls := .ref C, dict := some dx, data := .fields #[.ref t1, .none, .none, .none, .bool false, .none] }
  dbig : h.objs.size ≤ dx
  dne : dx ≠ x
  ns : h'.Ns1 dx (fun y => if y = "place" then some v else none)
theorem str_len2 (a b : Str) : (a ++ b).length = a.length + b.length := by
  show (a.cps ++ b.cps).size = _
  rw [Array.size_append]
  rfl
theorem len1 (v : Value) : [v].length ≤ sizeLine := by
  rw [sizeLine_eq]
  exact (by decide : 1 ≤ 16777216)
section
variable {prog : Program} {w : World} {A : Around} {E : Value → Shared → Prop} {R : Result → Shared → Prop} {s : Shared} {K : Frag} {mg : Str → Option Value} {x0 : Str} {C fI : Addr}
theorem bt_init (T : ErrTxt prog K mg x0 C fI) {hp : Heap} {x t0 : Addr} {v : Value} (X : K.In hp) (G : hp.Ns mainGlobals mg) (Bl : ∃ mb, hp.Ns builtinsNs mb ∧ mb "super" = some (.type "super")) (hlim : s.heap.NoLimit)
    (k : ∀ b o, hp.get? b = some o → s.heap.get? b = some o) (hsz : hp.objs.size ≤ s.heap.objs.size) (hx : s.heap.get? x = some (excO C t0)) (hxn : hp.get? x = none) (hroom : A.depth < recursionLimit)
    (hq : ∀ h' tk' dx t1, BtEnd hp h' x C dx t1 v → R (.ok (.ret .none)) { s with heap := h', toks := tk' }) :
    codeAny (model prog w) A (.call (.ref fI) ⟨[.ref x, v], []⟩) R s := by
  obtain ⟨oc, od, an, kV, doc, pm, ct, osl, qual, cda, cc, ccl, cl, cdd, cld, ccs, csl, vs, file, tf, zM, p1, p2, q0, r0, r1, r2, r3, r4, r5, r6, r7, r8, ho, hcd, hcode, hvs, hfile, hcell, hM, hline⟩ := T.fn
  obtain ⟨nm, q, N, bs, bm, sn, sub, ab, col, dd, k0, k1, k2, k3, k5, hC, hbm⟩ := T.cls
  obtain ⟨mb, hb, hmb⟩ := Bl
  have hcl : clsIn K C = some { name := nm, bases := bs, mro := .ref C :: bm, ns := N, qualname := q, hasDict := true, slotNames := sn, subclasses := sub, abstract := ab, collection := col, hasDel := false } := by unfold clsIn; rw [hC] <;> rfl
  have Xs : K.In s.heap := X.keeps k
  have noc : ∀ y ∈ eS.names, y.2 ≠ .cell := by decide +kernel
  have locs : ∀ y ∈ [(("self" : Str), Value.ref x), ("place", v)], eS.names.lookup y.1 = some .local := fun y hy => by
    rcases List.mem_cons.mp hy with rfl | hy
    · rfl
    · rw [List.mem_singleton.mp hy]
      rfl
  refine ks_codeAny_call_defAt (body := eB (eM zM q0) r0 r1 r2 r3 r4 r5 r6 r7 r8) (binds := [("self", .ref x), ("place", v)]) hroom (Xs _ _ ho) rfl hlim (codeRec_of Xs hcd) rfl (BindsTo.of_eq (by first | rfl | with_unfolding_all rfl)) noc locs (fun h₁ hns hk₁ => ?_) rfl rfl rfl
  have Fr1 : Fr hp s.heap.objs.size h₁ (fun y => [(("self" : Str), Value.ref x), ("place", v)].reverse.lookup y) := ⟨hns, fun b o e => hk₁ b o (k b o e), hsz⟩
  have N1 : News hp s.heap.objs.size h₁ [(x, excObj C t0 none .none)] := fun p hp' => by
    rw [List.mem_singleton.mp hp']
    exact ⟨hk₁ _ _ hx, Nat.ne_of_lt (Heap.lt_size hx), hxn⟩
  show _root_.PySem.wpAt (model prog w) _ (.func _ (ksEnv qual eS s.heap.objs.size fI (.ref cda) cc)) (execs (eB (eM zM q0) r0 r1 r2 r3 r4 r5 r6 r7 r8) (ksEnv qual eS s.heap.objs.size fI (.ref cda) cc)) _ _ _
  refine ks_wpAt_execs_cons (ks_wpAt_Expr_any (ks_wpAt_MethodCall ?_ (call_line hline rfl)))
  generalize hE : (fun e s' => wpAny (model prog w) _ (leaving _ e) (fun x s'' => R (Except.error e) s'') (fun e' s'' => R (Except.error e') s'') s') = EE
  have X1 : K.In h₁ := X.keeps Fr1.keep
  -- super()
  refine ks_wpAt_super_base (env := ksEnv qual eS s.heap.objs.size fI (.ref cda) cc) rfl rfl rfl rfl (X1 _ _ ho) rfl rfl rfl (X1 _ _ hcode) rfl hvs hfile T.top ?_
  refine ks_loadName_global rfl rfl (loadGlobal_builtin (env := ksEnv qual eS s.heap.objs.size fI (.ref cda) cc) (G.keeps Fr1.keep) T.gs (hb.keeps Fr1.keep) hmb ⟨rfl, ?_⟩)
  refine wpAny_loadName_free rfl rfl rfl ⟨_, X1 _ _ hcell, rfl⟩ ?_
  refine wpAny_loadName_local (v := .ref x) rfl rfl hns rfl ?_
  refine ks_wpAny_isType_cls (X1 _ _ hC) rfl ⟨rfl, ?_⟩
  refine ks_wpAny_call_super (X1 _ _ hC) rfl (hk₁ _ _ hx) rfl (fun c z => by cases z) (looks_mroIn X1 T.slf) (fun h2 hso k2 => ?_)
  obtain ⟨F2, N2, l2⟩ := ks_newsPush (s := ⟨h₁, s.gens, s.drawn, s.toks + 2, s.os⟩) Fr1 N1 rfl hso k2
  -- its __init__, bound
  refine kxs_method kxs_ValueError F2 X N2 (List.mem_cons_self ..) (InstAt.of_exc0 (c2 := .none) (t := t0) N2 (List.mem_cons_of_mem _ (List.mem_cons_self ..))) T.opq T.sup T.veC rfl (fun u h3 F3 N3 l3 => ?_)
  refine kxs_callWith1 N3 (List.mem_cons_self ..) ?_ rfl rfl
  refine Calls.spliced_cons ?_
  show wpAny _ _ (eval (eM zM q0) (ksEnv qual eS s.heap.objs.size fI (.ref cda) cc)) _ _ _
  refine Calls.Constant_str ?_
  refine Calls.spliced_nil ⟨kxs_at N3 (List.mem_cons_self ..), ?_⟩
  have nx1 : h₁.objs.size ≠ x := fun z => Nat.lt_irrefl _ (z ▸ l2 _ (List.mem_cons_self ..) : x < x)
  have nx2 : u ≠ x := fun z => Nat.lt_irrefl _ (z ▸ l3 _ (List.mem_cons_of_mem _ (List.mem_cons_self ..)) : x < x)
  refine kxs_call F3 X N3 PySem.F.excBase_ValueError T.ei (List.mem_cons_self ..) (.tail nx2 (.tail nx1 (.head fun p hp' => by cases hp'))) (len1 _) (fun t' h4 F4 N4 l4 => ?_)
  -- self.field = field
  have X4 : K.In h4 := X.keeps F4.keep
  have hx4 : h4.get? x = some (excO C t') := (N4 (x, excObj C t' none .none) (List.mem_cons_of_mem _ (List.mem_cons_of_mem _ (List.mem_cons_of_mem _ (List.mem_cons_self ..))))).1
  refine wpAt_of_wpAny (wpAny_execs_cons (plainObj_wpAny_Assign_Attribute ?_))
  refine wpAny_Name (wpAny_loadName_local (v := v) rfl rfl F4.ns rfl ?_) rfl
  refine wpAny_Name (wpAny_loadName_local (v := .ref x) rfl rfl F4.ns rfl ?_) rfl
  refine set_plain X4 (ox := excO C t') (od := none) ⟨hx4, rfl, rfl, trivial⟩ T.sa ?_
  refine exc_osa X4 hx4 hcl (show refsVE (.ref C :: bm) = true from hbm) rfl T.noN (fun h5 tk5 dx k5 dn dne hx5 hn5 => ?_)
  have zz : s.heap.objs.size < h4.objs.size := F4.ns.lt
  exact wpAny_execs_nil (hq h5 tk5 dx t' ⟨fun b o e => k5 b o (fun z => by rw [z, hxn] at e; cases e) (F4.keep b o e), hx5, Nat.le_trans hsz (Nat.le_trans (Nat.le_of_lt zz) dn), dne, hn5⟩)
end
/-- a made one -/
structure BtMade (h h' : Heap) (e C d : Addr) (v : Value) : Prop where
  keep : ∀ b o, h.get? b = some o → h'.get? b = some o
  big : h.objs.size ≤ e
  obj : ∃ t1 : Addr, h'.get? e = some { cls := .ref C, dict := some d, data := .fields #[.ref t1, .none, .none, .none, .bool false, .none] }
  dbig : h.objs.size ≤ d
  dne : d ≠ e
  ns : h'.Ns1 d (fun y => if y = "place" then some v else none)
section
variable {prog : Program} {w : World} {A : Around} {R : Result → Shared → Prop} {s : Shared} {K : Frag} {mg : Str → Option Value} {x0 : Str} {C fI : Addr}
theorem bt_made (T : ErrTxt prog K mg x0 C fI) {v : Value} (X : K.In s.heap) (G : s.heap.Ns mainGlobals mg) (Bl : ∃ mb, s.heap.Ns builtinsNs mb ∧ mb "super" = some (.type "super")) (hlim : s.heap.NoLimit) (hroom : A.depth + 1 < recursionLimit)
    (hq : ∀ h' tk' e d, BtMade s.heap h' e C d v → R (.ok (.ret (.ref e))) { s with heap := h', toks := tk' }) : codeAny (model prog w) A (.call (.ref C) ⟨[v], []⟩) R s := by
  obtain ⟨nm, q, N, bs, bm, sn, sub, ab, col, dd, k0, k1, k2, k3, k5, hC, hbm⟩ := T.cls
  obtain ⟨g0, gs, dr, t, os⟩ := s
  let g2 : Heap := (g0.push (kdv_tup [v])).push (excO C g0.objs.size)
  have up : ∀ b o, g0.get? b = some o → g2.get? b = some o := fun b o e => Heap.get?_push_of_some _ (Heap.get?_push_of_some _ e)
  have at1 : g2.get? (g0.objs.size + 1) = some (excO C g0.objs.size) := by
    show ((g0.push (kdv_tup [v])).push (excO C g0.objs.size)).get? (g0.objs.size + 1) = _
    heap_get
  have sz2 : g2.objs.size = g0.objs.size + 1 + 1 := by
    show ((g0.push (kdv_tup [v])).push (excO C g0.objs.size)).objs.size = _
    rw [Heap.size_push, Heap.size_push]
  have free1 : g0.get? (g0.objs.size + 1) = none := by
    cases e : g0.get? (g0.objs.size + 1) with
    | none => rfl
    | some o => exact absurd (Nat.lt_of_succ_lt (Heap.lt_size e)) (Nat.lt_irrefl _)
  refine call_own F.excBase_ValueError (fun Y => refsVE_contains Y bm hbm) (X _ _ hC) (looks_findIn X T.iC) (fun self => bind_fn X self T.tC) (len1 _) ?_
  refine bt_init (s := ⟨g2, gs, dr, t, os⟩) (hp := g0) T X G Bl (hlim.keeps up) up (by show g0.objs.size ≤ g2.objs.size; omega) at1 free1 hroom fun h' t' dx t1 ⟨k, ho, dbig, dne, hns⟩ => ?_
  exact ⟨rfl, hq h' t' (g0.objs.size + 1) dx ⟨k, Nat.le_succ _, ⟨t1, ho⟩, dbig, dne, hns⟩⟩
end
end FsBplace
namespace FsBplace
open PySem PySem.Spec PyProof.Rows L2
theorem relO_one {v : V} {u : Value} (r : RelV v u) (g : Str) : RelO (List.lookup g [(("place" : Str), v)]) (if g = "place" then some u else none) := by
  by_cases h : g = "place"
  · rw [h, if_pos rfl, show List.lookup ("place" : Str) [(("place" : Str), v)] = some v by simp [List.lookup]]
    exact r
  · rw [if_neg h, show List.lookup g [(("place" : Str), v)] = none by simp [List.lookup, show (g == "place") = false by simpa using h]]
    trivial
/-- X(v), its one field v -/
def tNew (C : Addr) (te : TE) : TE := fun σ H Q => te σ H fun v H1 => ∀ a d, H1 a = none → H1 d = none → d ≠ a → Q (.ref a) (upd (upd H1 a (exo a C (some d))) d (exd d [("place", v)]))
theorem pe_new {X : Cx} {C fI : Addr} {x : Str} {e : Expr} {te : TE} {p pos : Pos} (T : ErrTxt X.prog X.K X.mg x C fI) (hr : Room 2 X.A) (he : PE X e te) (hg : Gl X x) (hdb : (x == ("__debug__" : Str)) = false := by decide)
    (hs : starEach [e] X.env = (false, eval e X.env) :: starEach [] X.env := by rfl) (hpl : (backTo pos (starEach [] X.env)).any (·.1) = false := by rfl) : PE X (.Call (.Name x p) [e] [] pos) (tNew C te) := by
  refine ⟨fun pins s σ H Q I h => ?_⟩
  refine wpAny_Call_Name_kw (ld_glob I hg T.gC ?_ hdb)
  refine PySem.W.callWith_K (h₀ := X.base) I.ok.mod.kin T.kC ?_ hs hpl
  rw [hs]
  refine Calls.spliced_cons (thn (he.run pins s σ H _ I h) fun u s1 ⟨v, H1, I1, r1, q1⟩ => ?_)
  refine Calls.spliced_nil ⟨I1.kIn, ?_⟩
  show wpAny _ _ (call (.ref C) [u]) _ _ _
  have lim := I1.nolimit
  obtain ⟨mb, b1, b2⟩ := I1.ok.mod.blt
  have gl : s1.heap.Ns mainGlobals X.mg := I1.ok.mod.glob.keeps I1.bk
  have bl : ∃ mb, s1.heap.Ns builtinsNs mb ∧ mb "super" = some (.type "super") := ⟨mb, b1.keeps I1.bk, (b2 _ (by decide)).trans Boot.«super»⟩
  obtain ⟨g0, gs, dr, t, os⟩ := s1
  refine wpAny_call (bt_made T I1.kIn gl bl lim (by have := hr.dp; omega) fun h' t' a d M => ?_)
  obtain ⟨t1, ho⟩ := M.obj
  obtain ⟨G, ge1, ge2⟩ := restrict h' fun b => decide (b ≠ d)
  have same : ∀ b, b ≠ d → G.get? b = h'.get? b := fun b hb => ge1 b (decide_eq_true hb)
  have gone : G.get? d = none := ge2 d (by simp)
  have old : ∀ b o, g0.get? b = some o → G.get? b = some o := fun b o z => (same b (Nat.ne_of_lt (Nat.lt_of_lt_of_le (Heap.lt_size z) M.dbig))).trans (M.keep b o z)
  have na := I1.hok.fresh M.big
  have nd := I1.hok.fresh M.dbig
  have I2 : Inv X pins σ (upd H1 a (exo a C (some d))) ⟨G, gs, dr, t', os⟩ := I1.laid (t' := t') old M.big (exo_ok ((same a (Ne.symm M.dne)).trans ho))
  have I3 := I2.laidN (h' := h') (a := d) (o := exd d [("place", v)]) (t' := t') (fun b o z => by
    by_cases hb : b = d
    · rw [hb, gone] at z
      cases z
    · exact (same b hb).symm.trans z) gone (by rw [upd_ne M.dne]; exact nd) (exd_ok M.ns (relO_one r1))
  exact ⟨.ref a, _, I3, rfl, q1 a d na nd M.dne⟩
end FsBplace

set_option Elab.async false
set_option linter.all false
set_option maxRecDepth 100000
set_option maxHeartbeats 4000000
/-! An own error over ValueError, by a class between: its __init__ calls super().__init__ with a fixed text, then stores its one argument as the field text. -/
namespace FsBtext
open PySem PySem.W PySem.Calls PyProof.Rows PySem.HandSPX
abbrev eS : Scope := { kind := .function, names := [(PySem.Str.ofString "self", .local), (PySem.Str.ofString "text", .local), (PySem.Str.ofString "__class__", .free), (PySem.Str.ofString "super", .globalImplicit)], isGenerator := false, isCoroutine := false, more := [] }
abbrev eA (p1 p2 : Pos) : Arguments := { posonlyargs := [], args := [{ arg := "self", annotation := none, pos := p1 }, { arg := "text", annotation := none, pos := p2 }], vararg := none, kwonlyargs := [], kw_defaults := [], kwarg := none, defaults := [] }
abbrev eB (msg : Expr) (p0 p1 p2 p3 p4 p5 p6 p7 p8 : Pos) : List Stmt := [.Expr (.Call (.Attribute (.Call (.Name "super" p0) [] [] p1) "__init__" p2) [msg] [] p3) p4, .Assign [.Attribute (.Name "self" p5) "text" p6] (.Name "text" p7) p8]
/-- the message -/
abbrev eM (z : Str) (q0 : Pos) : Expr := .Constant (.str z) 0 q0
abbrev mroVE : List Value := [.type "ValueError", .type "Exception", .type "BaseException", .type "object"]
/-- what the written part says of the class at C, and of its __init__, at fI -/
structure ErrTxt (prog : Program) (K : Frag) (mg : Str → Option Value) (x : Str) (C fI : Addr) : Prop where
  gC : mg x = some (.ref C)
  cls : ∃ nm q N bs bm sn sub ab col dd k0 k1 k2 k3 k5, K.lookup C = some (excClassObj nm q C N bs bm true sn sub ab col dd k0 k1 k2 k3 k5 "ValueError.__new__") ∧ refsVE bm = true
  ei : excInitIn K C mroVE "ValueError.__new__" = true
  sa : findIn K (.ref C) "__setattr__" = some (some (.builtin "object.__setattr__"))
  noN : findIn K (.ref C) "text" = some none
  iC : findIn K (.ref C) "__init__" = some (some (.ref fI))
  tC : typeIn K (.ref fI) = some (.type "function")
  kC : keepIn K (.ref C) = true
  exC : subIn K (.ref C) (.type "BaseException") = some true
  veC : subIn K (.ref C) (.type "ValueError") = some true
  tyC : typeIn K (.ref C) = some (.type "type")
  slf : mroIn K C (.ref C) = some true
  sup : ks_superIn K C C "__init__" = some (some (.builtin "ValueError.__init__"))
  opq : nsIn K cStatics "thirdparty.any" = some none
  gs : mg "super" = none
  top : (prog.main.scope.names.lookup ("super" : Str)).isSome = false
  fn : ∃ (oc : Value) (od an : Option Addr) (kV doc pm ct : Value) (osl : Array (Option Value)) (qual : Str) (cda cc : Addr) (ccl cl : Value) (cdd cld : Option Addr) (ccs csl : Array (Option Value)) (vs : Array Value) (file : Str) (tf : Tok) (zM : Str) (p1 p2 q0 r0 r1 r2 r3 r4 r5 r6 r7 r8 : Pos),
    K.lookup fI = some ⟨oc, od, .func (ksFn "__init__" qual (eA p1 p2) (eB (eM zM q0) r0 r1 r2 r3 r4 r5 r6 r7 r8) eS .none kV doc pm an (.ref cda) ct cc), osl⟩ ∧ codeIn K (.ref cda) qual = true ∧
    K.lookup cda = some ⟨ccl, cdd, .fields vs, ccs⟩ ∧ vs[2]? = some (.str file tf) ∧ ((prog.main.file : Str) == file) = true ∧ K.lookup cc = some ⟨cl, cld, .cell (some (.ref C)), csl⟩ ∧ zM.length ≤ 1000 ∧ (r2.endLine == r3.line) = true
theorem call_line {o : Expr} {name : Str} {apos pos : Pos} {a : Expr} {env : Env} (hp : (apos.endLine == pos.line) = true) (hs : starEach [a] env = (false, eval a env) :: starEach [] env) : eval (.Call (.Attribute o name apos) [a] [] pos) env = (do
      let ov ← attributeBase o name env (eval o env)
      standAt apos.atName
      let (f, first) ← holding [ov] (getMethod ov name (do return (← importBound o env).getD true))
      callWith pos f first (backTo pos (starEach [a] env)) []) := by
  show (do
      let ov ← attributeBase o name env (eval o env)
      standAt apos.atName
      methodCall o name apos pos env ov 1 (backTo pos (starEach [a] env)) []) = _
  have e : methodCallForm 1 (backTo pos (starEach [a] env)) [] = true := by
    rw [hs]
    rfl
  unfold methodCall
  rw [e]
  unfold methodCallPos calleeOf
  rw [hp]
  simp only [Bool.not_true, Bool.false_or, if_true, pure_bind]
/-- what __init__ leaves of a fresh exception at x, over the heap h -/
structure BtEnd (h h' : Heap) (x C dx t1 : Addr) (v : Value) : Prop where
  keep : ∀ b o, h.get? b = some o → h'.get? b = some o
  obj : h'.get? x = some { cls := .ref C, dict := some dx, data := .fields #[.ref t1, .none, .none, .none, .bool false, .none] }
  dbig : h.objs.size ≤ dx
  dne : dx ≠ x
  ns : h'.Ns1 dx (fun y => if y = "text" then some v else none)
theorem str_len2 (a b : Str) : (a ++ b).length = a.length + b.length := by
  show (a.cps ++ b.cps).size = _
  rw [Array.size_append]
  rfl
theorem len1 (v : Value) : [v].length ≤ sizeLine := by
  rw [sizeLine_eq]
  exact (by decide : 1 ≤ 16777216)
section
variable {prog : Program} {w : World} {A : Around} {E : Value → Shared → Prop} {R : Result → Shared → Prop} {s : Shared} {K : Frag} {mg : Str → Option Value} {x0 : Str} {C fI : Addr}
theorem bt_init (T : ErrTxt prog K mg x0 C fI) {hp : Heap} {x t0 : Addr} {v : Value} (X : K.In hp) (G : hp.Ns mainGlobals mg) (Bl : ∃ mb, hp.Ns builtinsNs mb ∧ mb "super" = some (.type "super")) (hlim : s.heap.NoLimit)
    (k : ∀ b o, hp.get? b = some o → s.heap.get? b = some o) (hsz : hp.objs.size ≤ s.heap.objs.size) (hx : s.heap.get? x = some (excO C t0)) (hxn : hp.get? x = none) (hroom : A.depth < recursionLimit)
    (hq : ∀ h' tk' dx t1, BtEnd hp h' x C dx t1 v → R (.ok (.ret .none)) { s with heap := h', toks := tk' }) :
    codeAny (model prog w) A (.call (.ref fI) ⟨[.ref x, v], []⟩) R s := by
  obtain ⟨oc, od, an, kV, doc, pm, ct, osl, qual, cda, cc, ccl, cl, cdd, cld, ccs, csl, vs, file, tf, zM, p1, p2, q0, r0, r1, r2, r3, r4, r5, r6, r7, r8, ho, hcd, hcode, hvs, hfile, hcell, hM, hline⟩ := T.fn
  obtain ⟨nm, q, N, bs, bm, sn, sub, ab, col, dd, k0, k1, k2, k3, k5, hC, hbm⟩ := T.cls
  obtain ⟨mb, hb, hmb⟩ := Bl
  have hcl : clsIn K C = some { name := nm, bases := bs, mro := .ref C :: bm, ns := N, qualname := q, hasDict := true, slotNames := sn, subclasses := sub, abstract := ab, collection := col, hasDel := false } := by unfold clsIn; rw [hC] <;> rfl
  have Xs : K.In s.heap := X.keeps k
  have noc : ∀ y ∈ eS.names, y.2 ≠ .cell := by decide +kernel
  have locs : ∀ y ∈ [(("self" : Str), Value.ref x), ("text", v)], eS.names.lookup y.1 = some .local := fun y hy => by
    rcases List.mem_cons.mp hy with rfl | hy
    · rfl
    · rw [List.mem_singleton.mp hy]
      rfl
  refine ks_codeAny_call_defAt (body := eB (eM zM q0) r0 r1 r2 r3 r4 r5 r6 r7 r8) (binds := [("self", .ref x), ("text", v)]) hroom (Xs _ _ ho) rfl hlim (codeRec_of Xs hcd) rfl (BindsTo.of_eq (by first | rfl | with_unfolding_all rfl)) noc locs (fun h₁ hns hk₁ => ?_) rfl rfl rfl
  have Fr1 : Fr hp s.heap.objs.size h₁ (fun y => [(("self" : Str), Value.ref x), ("text", v)].reverse.lookup y) := ⟨hns, fun b o e => hk₁ b o (k b o e), hsz⟩
  have N1 : News hp s.heap.objs.size h₁ [(x, excObj C t0 none .none)] := fun p hp' => by
    rw [List.mem_singleton.mp hp']
    exact ⟨hk₁ _ _ hx, Nat.ne_of_lt (Heap.lt_size hx), hxn⟩
  show _root_.PySem.wpAt (model prog w) _ (.func _ (ksEnv qual eS s.heap.objs.size fI (.ref cda) cc)) (execs (eB (eM zM q0) r0 r1 r2 r3 r4 r5 r6 r7 r8) (ksEnv qual eS s.heap.objs.size fI (.ref cda) cc)) _ _ _
  refine ks_wpAt_execs_cons (ks_wpAt_Expr_any (ks_wpAt_MethodCall ?_ (call_line hline rfl)))
  generalize hE : (fun e s' => wpAny (model prog w) _ (leaving _ e) (fun x s'' => R (Except.error e) s'') (fun e' s'' => R (Except.error e') s'') s') = EE
  have X1 : K.In h₁ := X.keeps Fr1.keep
  -- super()
  refine ks_wpAt_super_base (env := ksEnv qual eS s.heap.objs.size fI (.ref cda) cc) rfl rfl rfl rfl (X1 _ _ ho) rfl rfl rfl (X1 _ _ hcode) rfl hvs hfile T.top ?_
  refine ks_loadName_global rfl rfl (loadGlobal_builtin (env := ksEnv qual eS s.heap.objs.size fI (.ref cda) cc) (G.keeps Fr1.keep) T.gs (hb.keeps Fr1.keep) hmb ⟨rfl, ?_⟩)
  refine wpAny_loadName_free rfl rfl rfl ⟨_, X1 _ _ hcell, rfl⟩ ?_
  refine wpAny_loadName_local (v := .ref x) rfl rfl hns rfl ?_
  refine ks_wpAny_isType_cls (X1 _ _ hC) rfl ⟨rfl, ?_⟩
  refine ks_wpAny_call_super (X1 _ _ hC) rfl (hk₁ _ _ hx) rfl (fun c z => by cases z) (looks_mroIn X1 T.slf) (fun h2 hso k2 => ?_)
  obtain ⟨F2, N2, l2⟩ := ks_newsPush (s := ⟨h₁, s.gens, s.drawn, s.toks + 2, s.os⟩) Fr1 N1 rfl hso k2
  -- its __init__, bound
  refine kxs_method kxs_ValueError F2 X N2 (List.mem_cons_self ..) (InstAt.of_exc0 (c2 := .none) (t := t0) N2 (List.mem_cons_of_mem _ (List.mem_cons_self ..))) T.opq T.sup T.veC rfl (fun u h3 F3 N3 l3 => ?_)
  refine kxs_callWith1 N3 (List.mem_cons_self ..) ?_ rfl rfl
  refine Calls.spliced_cons ?_
  show wpAny _ _ (eval (eM zM q0) (ksEnv qual eS s.heap.objs.size fI (.ref cda) cc)) _ _ _
  refine Calls.Constant_str ?_
  refine Calls.spliced_nil ⟨kxs_at N3 (List.mem_cons_self ..), ?_⟩
  have nx1 : h₁.objs.size ≠ x := fun z => Nat.lt_irrefl _ (z ▸ l2 _ (List.mem_cons_self ..) : x < x)
  have nx2 : u ≠ x := fun z => Nat.lt_irrefl _ (z ▸ l3 _ (List.mem_cons_of_mem _ (List.mem_cons_self ..)) : x < x)
  refine kxs_call F3 X N3 PySem.F.excBase_ValueError T.ei (List.mem_cons_self ..) (.tail nx2 (.tail nx1 (.head fun p hp' => by cases hp'))) (len1 _) (fun t' h4 F4 N4 l4 => ?_)
  -- self.field = field
  have X4 : K.In h4 := X.keeps F4.keep
  have hx4 : h4.get? x = some (excO C t') := (N4 (x, excObj C t' none .none) (List.mem_cons_of_mem _ (List.mem_cons_of_mem _ (List.mem_cons_of_mem _ (List.mem_cons_self ..))))).1
  refine wpAt_of_wpAny (wpAny_execs_cons (plainObj_wpAny_Assign_Attribute ?_))
  refine wpAny_Name (wpAny_loadName_local (v := v) rfl rfl F4.ns rfl ?_) rfl
  refine wpAny_Name (wpAny_loadName_local (v := .ref x) rfl rfl F4.ns rfl ?_) rfl
  refine set_plain X4 (ox := excO C t') (od := none) ⟨hx4, rfl, rfl, trivial⟩ T.sa ?_
  refine exc_osa X4 hx4 hcl (show refsVE (.ref C :: bm) = true from hbm) rfl T.noN (fun h5 tk5 dx k5 dn dne hx5 hn5 => ?_)
  have zz : s.heap.objs.size < h4.objs.size := F4.ns.lt
  exact wpAny_execs_nil (hq h5 tk5 dx t' ⟨fun b o e => k5 b o (fun z => by rw [z, hxn] at e; cases e) (F4.keep b o e), hx5, Nat.le_trans hsz (Nat.le_trans (Nat.le_of_lt zz) dn), dne, hn5⟩)
end
/-- a made one -/
structure BtMade (h h' : Heap) (e C d : Addr) (v : Value) : Prop where
  keep : ∀ b o, h.get? b = some o → h'.get? b = some o
  big : h.objs.size ≤ e
  obj : ∃ t1 : Addr, h'.get? e = some { cls := .ref C, dict := some d, data := .fields #[.ref t1, .none, .none, .none, .bool false, .none] }
  dbig : h.objs.size ≤ d
  dne : d ≠ e
  ns : h'.Ns1 d (fun y => if y = "text" then some v else none)
section
variable {prog : Program} {w : World} {A : Around} {R : Result → Shared → Prop} {s : Shared} {K : Frag} {mg : Str → Option Value} {x0 : Str} {C fI : Addr}
theorem bt_made (T : ErrTxt prog K mg x0 C fI) {v : Value} (X : K.In s.heap) (G : s.heap.Ns mainGlobals mg) (Bl : ∃ mb, s.heap.Ns builtinsNs mb ∧ mb "super" = some (.type "super")) (hlim : s.heap.NoLimit) (hroom : A.depth + 1 < recursionLimit)
    (hq : ∀ h' tk' e d, BtMade s.heap h' e C d v → R (.ok (.ret (.ref e))) { s with heap := h', toks := tk' }) : codeAny (model prog w) A (.call (.ref C) ⟨[v], []⟩) R s := by
  obtain ⟨nm, q, N, bs, bm, sn, sub, ab, col, dd, k0, k1, k2, k3, k5, hC, hbm⟩ := T.cls
  obtain ⟨g0, gs, dr, t, os⟩ := s
  let g2 : Heap := (g0.push (kdv_tup [v])).push (excO C g0.objs.size)
  have up : ∀ b o, g0.get? b = some o → g2.get? b = some o := fun b o e => Heap.get?_push_of_some _ (Heap.get?_push_of_some _ e)
  have at1 : g2.get? (g0.objs.size + 1) = some (excO C g0.objs.size) := by
    show ((g0.push (kdv_tup [v])).push (excO C g0.objs.size)).get? (g0.objs.size + 1) = _
    heap_get
  have sz2 : g2.objs.size = g0.objs.size + 1 + 1 := by
    show ((g0.push (kdv_tup [v])).push (excO C g0.objs.size)).objs.size = _
    rw [Heap.size_push, Heap.size_push]
  have free1 : g0.get? (g0.objs.size + 1) = none := by
    cases e : g0.get? (g0.objs.size + 1) with
    | none => rfl
    | some o => exact absurd (Nat.lt_of_succ_lt (Heap.lt_size e)) (Nat.lt_irrefl _)
  refine call_own F.excBase_ValueError (fun Y => refsVE_contains Y bm hbm) (X _ _ hC) (looks_findIn X T.iC) (fun self => bind_fn X self T.tC) (len1 _) ?_
  refine bt_init (s := ⟨g2, gs, dr, t, os⟩) (hp := g0) T X G Bl (hlim.keeps up) up (by show g0.objs.size ≤ g2.objs.size; omega) at1 free1 hroom fun h' t' dx t1 ⟨k, ho, dbig, dne, hns⟩ => ?_
  exact ⟨rfl, hq h' t' (g0.objs.size + 1) dx ⟨k, Nat.le_succ _, ⟨t1, ho⟩, dbig, dne, hns⟩⟩
end
end FsBtext
namespace FsBtext
open PySem PySem.Spec PyProof.Rows L2
theorem relO_one {v : V} {u : Value} (r : RelV v u) (g : Str) : RelO (List.lookup g [(("text" : Str), v)]) (if g = "text" then some u else none) := by
  by_cases h : g = "text"
  · rw [h, if_pos rfl, show List.lookup ("text" : Str) [(("text" : Str), v)] = some v by simp [List.lookup]]
    exact r
  · rw [if_neg h, show List.lookup g [(("text" : Str), v)] = none by simp [List.lookup, show (g == "text") = false by simpa using h]]
    trivial
/-- X(v), its one field v -/
def tNew (C : Addr) (te : TE) : TE := fun σ H Q => te σ H fun v H1 => ∀ a d, H1 a = none → H1 d = none → d ≠ a → Q (.ref a) (upd (upd H1 a (exo a C (some d))) d (exd d [("text", v)]))
theorem pe_new {X : Cx} {C fI : Addr} {x : Str} {e : Expr} {te : TE} {p pos : Pos} (T : ErrTxt X.prog X.K X.mg x C fI) (hr : Room 2 X.A) (he : PE X e te) (hg : Gl X x) (hdb : (x == ("__debug__" : Str)) = false := by decide)
    (hs : starEach [e] X.env = (false, eval e X.env) :: starEach [] X.env := by rfl) (hpl : (backTo pos (starEach [] X.env)).any (·.1) = false := by rfl) : PE X (.Call (.Name x p) [e] [] pos) (tNew C te) := by
  refine ⟨fun pins s σ H Q I h => ?_⟩
  refine wpAny_Call_Name_kw (ld_glob I hg T.gC ?_ hdb)
  refine PySem.W.callWith_K (h₀ := X.base) I.ok.mod.kin T.kC ?_ hs hpl
  rw [hs]
  refine Calls.spliced_cons (thn (he.run pins s σ H _ I h) fun u s1 ⟨v, H1, I1, r1, q1⟩ => ?_)
  refine Calls.spliced_nil ⟨I1.kIn, ?_⟩
  show wpAny _ _ (call (.ref C) [u]) _ _ _
  have lim := I1.nolimit
  obtain ⟨mb, b1, b2⟩ := I1.ok.mod.blt
  have gl : s1.heap.Ns mainGlobals X.mg := I1.ok.mod.glob.keeps I1.bk
  have bl : ∃ mb, s1.heap.Ns builtinsNs mb ∧ mb "super" = some (.type "super") := ⟨mb, b1.keeps I1.bk, (b2 _ (by decide)).trans Boot.«super»⟩
  obtain ⟨g0, gs, dr, t, os⟩ := s1
  refine wpAny_call (bt_made T I1.kIn gl bl lim (by have := hr.dp; omega) fun h' t' a d M => ?_)
  obtain ⟨t1, ho⟩ := M.obj
  obtain ⟨G, ge1, ge2⟩ := restrict h' fun b => decide (b ≠ d)
  have same : ∀ b, b ≠ d → G.get? b = h'.get? b := fun b hb => ge1 b (decide_eq_true hb)
  have gone : G.get? d = none := ge2 d (by simp)
  have old : ∀ b o, g0.get? b = some o → G.get? b = some o := fun b o z => (same b (Nat.ne_of_lt (Nat.lt_of_lt_of_le (Heap.lt_size z) M.dbig))).trans (M.keep b o z)
  have na := I1.hok.fresh M.big
  have nd := I1.hok.fresh M.dbig
  have I2 : Inv X pins σ (upd H1 a (exo a C (some d))) ⟨G, gs, dr, t', os⟩ := I1.laid (t' := t') old M.big (exo_ok ((same a (Ne.symm M.dne)).trans ho))
  have I3 := I2.laidN (h' := h') (a := d) (o := exd d [("text", v)]) (t' := t') (fun b o z => by
    by_cases hb : b = d
    · rw [hb, gone] at z
      cases z
    · exact (same b hb).symm.trans z) gone (by rw [upd_ne M.dne]; exact nd) (exd_ok M.ns (relO_one r1))
  exact ⟨.ref a, _, I3, rfl, q1 a d na nd M.dne⟩
end FsBtext

set_option Elab.async false
set_option linter.all false
set_option maxRecDepth 100000
set_option maxHeartbeats 4000000
/-! An own error over ValueError, by a class between: its __init__ calls super().__init__ with a fixed text, then stores its one argument as the field limit. -/
namespace FsBlimit
open PySem PySem.W PySem.Calls PyProof.Rows PySem.HandSPX
abbrev eS : Scope := { kind := .function, names := [(PySem.Str.ofString "self", .local), (PySem.Str.ofString "limit", .local), (PySem.Str.ofString "__class__", .free), (PySem.Str.ofString "super", .globalImplicit)], isGenerator := false, isCoroutine := false, more := [] }
abbrev eA (p1 p2 : Pos) : Arguments := { posonlyargs := [], args := [{ arg := "self", annotation := none, pos := p1 }, { arg := "limit", annotation := none, pos := p2 }], vararg := none, kwonlyargs := [], kw_defaults := [], kwarg := none, defaults := [] }
abbrev eB (msg : Expr) (p0 p1 p2 p3 p4 p5 p6 p7 p8 : Pos) : List Stmt := [.Expr (.Call (.Attribute (.Call (.Name "super" p0) [] [] p1) "__init__" p2) [msg] [] p3) p4, .Assign [.Attribute (.Name "self" p5) "limit" p6] (.Name "limit" p7) p8]
/-- the message -/
abbrev eM (z : Str) (q0 : Pos) : Expr := .Constant (.str z) 0 q0
abbrev mroVE : List Value := [.type "ValueError", .type "Exception", .type "BaseException", .type "object"]
/-- what the written part says of the class at C, and of its __init__, at fI -/
structure ErrTxt (prog : Program) (K : Frag) (mg : Str → Option Value) (x : Str) (C fI : Addr) : Prop where
  gC : mg x = some (.ref C)
  cls : ∃ nm q N bs bm sn sub ab col dd k0 k1 k2 k3 k5, K.lookup C = some (excClassObj nm q C N bs bm true sn sub ab col dd k0 k1 k2 k3 k5 "ValueError.__new__") ∧ refsVE bm = true
  ei : excInitIn K C mroVE "ValueError.__new__" = true
  sa : findIn K (.ref C) "__setattr__" = some (some (.builtin "object.__setattr__"))
  noN : findIn K (.ref C) "limit" = some none
  iC : findIn K (.ref C) "__init__" = some (some (.ref fI))
  tC : typeIn K (.ref fI) = some (.type "function")
  kC : keepIn K (.ref C) = true
  exC : subIn K (.ref C) (.type "BaseException") = some true
  veC : subIn K (.ref C) (.type "ValueError") = some true
  tyC : typeIn K (.ref C) = some (.type "type")
  slf : mroIn K C (.ref C) = some true
  sup : ks_superIn K C C "__init__" = some (some (.builtin "ValueError.__init__"))
  opq : nsIn K cStatics "thirdparty.any" = some none
  gs : mg "super" = none
  top : (prog.main.scope.names.lookup ("super" : Str)).isSome = false
  fn : ∃ (oc : Value) (od an : Option Addr) (kV doc pm ct : Value) (osl : Array (Option Value)) (qual : Str) (cda cc : Addr) (ccl cl : Value) (cdd cld : Option Addr) (ccs csl : Array (Option Value)) (vs : Array Value) (file : Str) (tf : Tok) (zM : Str) (p1 p2 q0 r0 r1 r2 r3 r4 r5 r6 r7 r8 : Pos),
    K.lookup fI = some ⟨oc, od, .func (ksFn "__init__" qual (eA p1 p2) (eB (eM zM q0) r0 r1 r2 r3 r4 r5 r6 r7 r8) eS .none kV doc pm an (.ref cda) ct cc), osl⟩ ∧ codeIn K (.ref cda) qual = true ∧
    K.lookup cda = some ⟨ccl, cdd, .fields vs, ccs⟩ ∧ vs[2]? = some (.str file tf) ∧ ((prog.main.file : Str) == file) = true ∧ K.lookup cc = some ⟨cl, cld, .cell (some (.ref C)), csl⟩ ∧ zM.length ≤ 1000 ∧ (r2.endLine == r3.line) = true
theorem call_line {o : Expr} {name : Str} {apos pos : Pos} {a : Expr} {env : Env} (hp : (apos.endLine == pos.line) = true) (hs : starEach [a] env = (false, eval a env) :: starEach [] env) : eval (.Call (.Attribute o name apos) [a] [] pos) env = (do
      let ov ← attributeBase o name env (eval o env)
      standAt apos.atName
      let (f, first) ← holding [ov] (getMethod ov name (do return (← importBound o env).getD true))
      callWith pos f first (backTo pos (starEach [a] env)) []) := by
  show (do
      let ov ← attributeBase o name env (eval o env)
      standAt apos.atName
      methodCall o name apos pos env ov 1 (backTo pos (starEach [a] env)) []) = _
  have e : methodCallForm 1 (backTo pos (starEach [a] env)) [] = true := by
    rw [hs]
    rfl
  unfold methodCall
  rw [e]
  unfold methodCallPos calleeOf
  rw [hp]
  simp only [Bool.not_true, Bool.false_or, if_true, pure_bind]
/-- what __init__ leaves of a fresh exception at x, over the heap h -/
structure BtEnd (h h' : Heap) (x C dx t1 : Addr) (v : Value) : Prop where
  keep : ∀ b o, h.get? b = some o → h'.get? b = some o
  obj : h'.get? x = some { cls := .ref C, dict := some dx, data := .fields #[.ref t1, .none, .none, .none, .bool false, .none] }
  dbig : h.objs.size ≤ dx
  dne : dx ≠ x
  ns : h'.Ns1 dx (fun y => if y = "limit" then some v else none)
theorem str_len2 (a b : Str) : (a ++ b).length = a.length + b.length := by
  show (a.cps ++ b.cps).size = _
  rw [Array.size_append]
  rfl
theorem len1 (v : Value) : [v].length ≤ sizeLine := by
  rw [sizeLine_eq]
  exact (by decide : 1 ≤ 16777216)
section
variable {prog : Program} {w : World} {A : Around} {E : Value → Shared → Prop} {R : Result → Shared → Prop} {s : Shared} {K : Frag} {mg : Str → Option Value} {x0 : Str} {C fI : Addr}
theorem bt_init (T : ErrTxt prog K mg x0 C fI) {hp : Heap} {x t0 : Addr} {v : Value} (X : K.In hp) (G : hp.Ns mainGlobals mg) (Bl : ∃ mb, hp.Ns builtinsNs mb ∧ mb "super" = some (.type "super")) (hlim : s.heap.NoLimit)
    (k : ∀ b o, hp.get? b = some o → s.heap.get? b = some o) (hsz : hp.objs.size ≤ s.heap.objs.size) (hx : s.heap.get? x = some (excO C t0)) (hxn : hp.get? x = none) (hroom : A.depth < recursionLimit)
    (hq : ∀ h' tk' dx t1, BtEnd hp h' x C dx t1 v → R (.ok (.ret .none)) { s with heap := h', toks := tk' }) :
    codeAny (model prog w) A (.call (.ref fI) ⟨[.ref x, v], []⟩) R s := by
  obtain ⟨oc, od, an, kV, doc, pm, ct, osl, qual, cda, cc, ccl, cl, cdd, cld, ccs, csl, vs, file, tf, zM, p1, p2, q0, r0, r1, r2, r3, r4, r5, r6, r7, r8, ho, hcd, hcode, hvs, hfile, hcell, hM, hline⟩ := T.fn
  obtain ⟨nm, q, N, bs, bm, sn, sub, ab, col, dd, k0, k1, k2, k3, k5, hC, hbm⟩ := T.cls
  obtain ⟨mb, hb, hmb⟩ := Bl
  have hcl : clsIn K C = some { name := nm, bases := bs, mro := .ref C :: bm, ns := N, qualname := q, hasDict := true, slotNames := sn, subclasses := sub, abstract := ab, collection := col, hasDel := false } := by unfold clsIn; rw [hC] <;> rfl
  have Xs : K.In s.heap := X.keeps k
  have noc : ∀ y ∈ eS.names, y.2 ≠ .cell := by decide +kernel
  have locs : ∀ y ∈ [(("self" : Str), Value.ref x), ("limit", v)], eS.names.lookup y.1 = some .local := fun y hy => by
    rcases List.mem_cons.mp hy with rfl | hy
    · rfl
    · rw [List.mem_singleton.mp hy]
      rfl
  refine ks_codeAny_call_defAt (body := eB (eM zM q0) r0 r1 r2 r3 r4 r5 r6 r7 r8) (binds := [("self", .ref x), ("limit", v)]) hroom (Xs _ _ ho) rfl hlim (codeRec_of Xs hcd) rfl (BindsTo.of_eq (by first | rfl | with_unfolding_all rfl)) noc locs (fun h₁ hns hk₁ => ?_) rfl rfl rfl
  have Fr1 : Fr hp s.heap.objs.size h₁ (fun y => [(("self" : Str), Value.ref x), ("limit", v)].reverse.lookup y) := ⟨hns, fun b o e => hk₁ b o (k b o e), hsz⟩
  have N1 : News hp s.heap.objs.size h₁ [(x, excObj C t0 none .none)] := fun p hp' => by
    rw [List.mem_singleton.mp hp']
    exact ⟨hk₁ _ _ hx, Nat.ne_of_lt (Heap.lt_size hx), hxn⟩
  show _root_.PySem.wpAt (model prog w) _ (.func _ (ksEnv qual eS s.heap.objs.size fI (.ref cda) cc)) (execs (eB (eM zM q0) r0 r1 r2 r3 r4 r5 r6 r7 r8) (ksEnv qual eS s.heap.objs.size fI (.ref cda) cc)) _ _ _
  refine ks_wpAt_execs_cons (ks_wpAt_Expr_any (ks_wpAt_MethodCall ?_ (call_line hline rfl)))
  generalize hE : (fun e s' => wpAny (model prog w) _ (leaving _ e) (fun x s'' => R (Except.error e) s'') (fun e' s'' => R (Except.error e') s'') s') = EE
  have X1 : K.In h₁ := X.keeps Fr1.keep
  -- super()
  refine ks_wpAt_super_base (env := ksEnv qual eS s.heap.objs.size fI (.ref cda) cc) rfl rfl rfl rfl (X1 _ _ ho) rfl rfl rfl (X1 _ _ hcode) rfl hvs hfile T.top ?_
  refine ks_loadName_global rfl rfl (loadGlobal_builtin (env := ksEnv qual eS s.heap.objs.size fI (.ref cda) cc) (G.keeps Fr1.keep) T.gs (hb.keeps Fr1.keep) hmb ⟨rfl, ?_⟩)
  refine wpAny_loadName_free rfl rfl rfl ⟨_, X1 _ _ hcell, rfl⟩ ?_
  refine wpAny_loadName_local (v := .ref x) rfl rfl hns rfl ?_
  refine ks_wpAny_isType_cls (X1 _ _ hC) rfl ⟨rfl, ?_⟩
  refine ks_wpAny_call_super (X1 _ _ hC) rfl (hk₁ _ _ hx) rfl (fun c z => by cases z) (looks_mroIn X1 T.slf) (fun h2 hso k2 => ?_)
  obtain ⟨F2, N2, l2⟩ := ks_newsPush (s := ⟨h₁, s.gens, s.drawn, s.toks + 2, s.os⟩) Fr1 N1 rfl hso k2
  -- its __init__, bound
  refine kxs_method kxs_ValueError F2 X N2 (List.mem_cons_self ..) (InstAt.of_exc0 (c2 := .none) (t := t0) N2 (List.mem_cons_of_mem _ (List.mem_cons_self ..))) T.opq T.sup T.veC rfl (fun u h3 F3 N3 l3 => ?_)
  refine kxs_callWith1 N3 (List.mem_cons_self ..) ?_ rfl rfl
  refine Calls.spliced_cons ?_
  show wpAny _ _ (eval (eM zM q0) (ksEnv qual eS s.heap.objs.size fI (.ref cda) cc)) _ _ _
  refine Calls.Constant_str ?_
  refine Calls.spliced_nil ⟨kxs_at N3 (List.mem_cons_self ..), ?_⟩
  have nx1 : h₁.objs.size ≠ x := fun z => Nat.lt_irrefl _ (z ▸ l2 _ (List.mem_cons_self ..) : x < x)
  have nx2 : u ≠ x := fun z => Nat.lt_irrefl _ (z ▸ l3 _ (List.mem_cons_of_mem _ (List.mem_cons_self ..)) : x < x)
  refine kxs_call F3 X N3 PySem.F.excBase_ValueError T.ei (List.mem_cons_self ..) (.tail nx2 (.tail nx1 (.head fun p hp' => by cases hp'))) (len1 _) (fun t' h4 F4 N4 l4 => ?_)
  -- self.field = field
  have X4 : K.In h4 := X.keeps F4.keep
  have hx4 : h4.get? x = some (excO C t') := (N4 (x, excObj C t' none .none) (List.mem_cons_of_mem _ (List.mem_cons_of_mem _ (List.mem_cons_of_mem _ (List.mem_cons_self ..))))).1
  refine wpAt_of_wpAny (wpAny_execs_cons (plainObj_wpAny_Assign_Attribute ?_))
  refine wpAny_Name (wpAny_loadName_local (v := v) rfl rfl F4.ns rfl ?_) rfl
  refine wpAny_Name (wpAny_loadName_local (v := .ref x) rfl rfl F4.ns rfl ?_) rfl
  refine set_plain X4 (ox := excO C t') (od := none) ⟨hx4, rfl, rfl, trivial⟩ T.sa ?_
  refine exc_osa X4 hx4 hcl (show refsVE (.ref C :: bm) = true from hbm) rfl T.noN (fun h5 tk5 dx k5 dn dne hx5 hn5 => ?_)
  have zz : s.heap.objs.size < h4.objs.size := F4.ns.lt
  exact wpAny_execs_nil (hq h5 tk5 dx t' ⟨fun b o e => k5 b o (fun z => by rw [z, hxn] at e; cases e) (F4.keep b o e), hx5, Nat.le_trans hsz (Nat.le_trans (Nat.le_of_lt zz) dn), dne, hn5⟩)
end
/-- a made one -/
structure BtMade (h h' : Heap) (e C d : Addr) (v : Value) : Prop where
  keep : ∀ b o, h.get? b = some o → h'.get? b = some o
  big : h.objs.size ≤ e
  obj : ∃ t1 : Addr, h'.get? e = some { cls := .ref C, dict := some d, data := .fields #[.ref t1, .none, .none, .none, .bool false, .none] }
  dbig : h.objs.size ≤ d
  dne : d ≠ e
  ns : h'.Ns1 d (fun y => if y = "limit" then some v else none)
section
variable {prog : Program} {w : World} {A : Around} {R : Result → Shared → Prop} {s : Shared} {K : Frag} {mg : Str → Option Value} {x0 : Str} {C fI : Addr}
theorem bt_made (T : ErrTxt prog K mg x0 C fI) {v : Value} (X : K.In s.heap) (G : s.heap.Ns mainGlobals mg) (Bl : ∃ mb, s.heap.Ns builtinsNs mb ∧ mb "super" = some (.type "super")) (hlim : s.heap.NoLimit) (hroom : A.depth + 1 < recursionLimit)
    (hq : ∀ h' tk' e d, BtMade s.heap h' e C d v → R (.ok (.ret (.ref e))) { s with heap := h', toks := tk' }) : codeAny (model prog w) A (.call (.ref C) ⟨[v], []⟩) R s := by
  obtain ⟨nm, q, N, bs, bm, sn, sub, ab, col, dd, k0, k1, k2, k3, k5, hC, hbm⟩ := T.cls
  obtain ⟨g0, gs, dr, t, os⟩ := s
  let g2 : Heap := (g0.push (kdv_tup [v])).push (excO C g0.objs.size)
  have up : ∀ b o, g0.get? b = some o → g2.get? b = some o := fun b o e => Heap.get?_push_of_some _ (Heap.get?_push_of_some _ e)
  have at1 : g2.get? (g0.objs.size + 1) = some (excO C g0.objs.size) := by
    show ((g0.push (kdv_tup [v])).push (excO C g0.objs.size)).get? (g0.objs.size + 1) = _
    heap_get
  have sz2 : g2.objs.size = g0.objs.size + 1 + 1 := by
    show ((g0.push (kdv_tup [v])).push (excO C g0.objs.size)).objs.size = _
    rw [Heap.size_push, Heap.size_push]
  have free1 : g0.get? (g0.objs.size + 1) = none := by
    cases e : g0.get? (g0.objs.size + 1) with
    | none => rfl
    | some o => exact absurd (Nat.lt_of_succ_lt (Heap.lt_size e)) (Nat.lt_irrefl _)
  refine call_own F.excBase_ValueError (fun Y => refsVE_contains Y bm hbm) (X _ _ hC) (looks_findIn X T.iC) (fun self => bind_fn X self T.tC) (len1 _) ?_
  refine bt_init (s := ⟨g2, gs, dr, t, os⟩) (hp := g0) T X G Bl (hlim.keeps up) up (by show g0.objs.size ≤ g2.objs.size; omega) at1 free1 hroom fun h' t' dx t1 ⟨k, ho, dbig, dne, hns⟩ => ?_
  exact ⟨rfl, hq h' t' (g0.objs.size + 1) dx ⟨k, Nat.le_succ _, ⟨t1, ho⟩, dbig, dne, hns⟩⟩
end
end FsBlimit
namespace FsBlimit
open PySem PySem.Spec PyProof.Rows L2
theorem relO_one {v : V} {u : Value} (r : RelV v u) (g : Str) : RelO (List.lookup g [(("limit" : Str), v)]) (if g = "limit" then some u else none) := by
  by_cases h : g = "limit"
  · rw [h, if_pos rfl, show List.lookup ("limit" : Str) [(("limit" : Str), v)] = some v by simp [List.lookup]]
    exact r
  · rw [if_neg h, show List.lookup g [(("limit" : Str), v)] = none by simp [List.lookup, show (g == "limit") = false by simpa using h]]
    trivial
/-- X(v), its one field v -/
def tNew (C : Addr) (te : TE) : TE := fun σ H Q => te σ H fun v H1 => ∀ a d, H1 a = none → H1 d = none → d ≠ a → Q (.ref a) (upd (upd H1 a (exo a C (some d))) d (exd d [("limit", v)]))
theorem pe_new {X : Cx} {C fI : Addr} {x : Str} {e : Expr} {te : TE} {p pos : Pos} (T : ErrTxt X.prog X.K X.mg x C fI) (hr : Room 2 X.A) (he : PE X e te) (hg : Gl X x) (hdb : (x == ("__debug__" : Str)) = false := by decide)
    (hs : starEach [e] X.env = (false, eval e X.env) :: starEach [] X.env := by rfl) (hpl : (backTo pos (starEach [] X.env)).any (·.1) = false := by rfl) : PE X (.Call (.Name x p) [e] [] pos) (tNew C te) := by
  refine ⟨fun pins s σ H Q I h => ?_⟩
  refine wpAny_Call_Name_kw (ld_glob I hg T.gC ?_ hdb)
  refine PySem.W.callWith_K (h₀ := X.base) I.ok.mod.kin T.kC ?_ hs hpl
  rw [hs]
  refine Calls.spliced_cons (thn (he.run pins s σ H _ I h) fun u s1 ⟨v, H1, I1, r1, q1⟩ => ?_)
  refine Calls.spliced_nil ⟨I1.kIn, ?_⟩
  show wpAny _ _ (call (.ref C) [u]) _ _ _
  have lim := I1.nolimit
  obtain ⟨mb, b1, b2⟩ := I1.ok.mod.blt
  have gl : s1.heap.Ns mainGlobals X.mg := I1.ok.mod.glob.keeps I1.bk
  have bl : ∃ mb, s1.heap.Ns builtinsNs mb ∧ mb "super" = some (.type "super") := ⟨mb, b1.keeps I1.bk, (b2 _ (by decide)).trans Boot.«super»⟩
  obtain ⟨g0, gs, dr, t, os⟩ := s1
  refine wpAny_call (bt_made T I1.kIn gl bl lim (by have := hr.dp; omega) fun h' t' a d M => ?_)
  obtain ⟨t1, ho⟩ := M.obj
  obtain ⟨G, ge1, ge2⟩ := restrict h' fun b => decide (b ≠ d)
  have same : ∀ b, b ≠ d → G.get? b = h'.get? b := fun b hb => ge1 b (decide_eq_true hb)
  have gone : G.get? d = none := ge2 d (by simp)
  have old : ∀ b o, g0.get? b = some o → G.get? b = some o := fun b o z => (same b (Nat.ne_of_lt (Nat.lt_of_lt_of_le (Heap.lt_size z) M.dbig))).trans (M.keep b o z)
  have na := I1.hok.fresh M.big
  have nd := I1.hok.fresh M.dbig
  have I2 : Inv X pins σ (upd H1 a (exo a C (some d))) ⟨G, gs, dr, t', os⟩ := I1.laid (t' := t') old M.big (exo_ok ((same a (Ne.symm M.dne)).trans ho))
  have I3 := I2.laidN (h' := h') (a := d) (o := exd d [("limit", v)]) (t' := t') (fun b o z => by
    by_cases hb : b = d
    · rw [hb, gone] at z
      cases z
    · exact (same b hb).symm.trans z) gone (by rw [upd_ne M.dne]; exact nd) (exd_ok M.ns (relO_one r1))
  exact ⟨.ref a, _, I3, rfl, q1 a d na nd M.dne⟩
end FsBlimit

set_option Elab.async false
set_option linter.all false
set_option maxRecDepth 100000
set_option maxHeartbeats 4000000
/-! An own error over ValueError, by a class between: its __init__ calls super().__init__ with a fixed text, then stores its one argument as the field value. -/
namespace FsBvalue
open PySem PySem.W PySem.Calls PyProof.Rows PySem.HandSPX
abbrev eS : Scope := { kind := .function, names := [(PySem.Str.ofString "self", .local), (PySem.Str.ofString "value", .local), (PySem.Str.ofString "__class__", .free), (PySem.Str.ofString "super", .globalImplicit)], isGenerator := false, isCoroutine := false, more := [] }
abbrev eA (p1 p2 : Pos) : Arguments := { posonlyargs := [], args := [{ arg := "self", annotation := none, pos := p1 }, { arg := "value", annotation := none, pos := p2 }], vararg := none, kwonlyargs := [], kw_defaults := [], kwarg := none, defaults := [] }
abbrev eB (msg : Expr) (p0 p1 p2 p3 p4 p5 p6 p7 p8 : Pos) : List Stmt := [.Expr (.Call (.Attribute (.Call (.Name "super" p0) [] [] p1) "__init__" p2) [msg] [] p3) p4, .Assign [.Attribute (.Name "self" p5) "value" p6] (.Name "value" p7) p8]
/-- the message -/
abbrev eM (z : Str) (q0 : Pos) : Expr := .Constant (.str z) 0 q0
abbrev mroVE : List Value := [.type "ValueError", .type "Exception", .type "BaseException", .type "object"]
/-- what the written part says of the class at C, and of its __init__, at fI -/
structure ErrTxt (prog : Program) (K : Frag) (mg : Str → Option Value) (x : Str) (C fI : Addr) : Prop where
  gC : mg x = some (.ref C)
  cls : ∃ nm q N bs bm sn sub ab col dd k0 k1 k2 k3 k5, K.lookup C = some (excClassObj nm q C N bs bm true sn sub ab col dd k0 k1 k2 k3 k5 "ValueError.__new__") ∧ refsVE bm = true
  ei : excInitIn K C mroVE "ValueError.__new__" = true
  sa : findIn K (.ref C) "__setattr__" = some (some (.builtin "object.__setattr__"))
  noN : findIn K (.ref C) "value" = some none
  iC : findIn K (.ref C) "__init__" = some (some (.ref fI))
  tC : typeIn K (.ref fI) = some (.type "function")
  kC : keepIn K (.ref C) = true
  exC : subIn K (.ref C) (.type "BaseException") = some true
  veC : subIn K (.ref C) (.type "ValueError") = some true
  tyC : typeIn K (.ref C) = some (.type "type")
  slf : mroIn K C (.ref C) = some true
  sup : ks_superIn K C C "__init__" = some (some (.builtin "ValueError.__init__"))
  opq : nsIn K cStatics "thirdparty.any" = some none
  gs : mg "super" = none
  top : (prog.main.scope.names.lookup ("super" : Str)).isSome = false
  fn : ∃ (oc : Value) (od an : Option Addr) (kV doc pm ct : Value) (osl : Array (Option Value)) (qual : Str) (cda cc : Addr) (ccl cl : Value) (cdd cld : Option Addr) (ccs csl : Array (Option Value)) (vs : Array Value) (file : Str) (tf : Tok) (zM : Str) (p1 p2 q0 r0 r1 r2 r3 r4 r5 r6 r7 r8 : Pos),
    K.lookup fI = some ⟨oc, od, .func (ksFn "__init__" qual (eA p1 p2) (eB (eM zM q0) r0 r1 r2 r3 r4 r5 r6 r7 r8) eS .none kV doc pm an (.ref cda) ct cc), osl⟩ ∧ codeIn K (.ref cda) qual = true ∧
    K.lookup cda = some ⟨ccl, cdd, .fields vs, ccs⟩ ∧ vs[2]? = some (.str file tf) ∧ ((prog.main.file : Str) == file) = true ∧ K.lookup cc = some ⟨cl, cld, .cell (some (.ref C)), csl⟩ ∧ zM.length ≤ 1000 ∧ (r2.endLine == r3.line) = true
theorem call_line {o : Expr} {name : Str} {apos pos : Pos} {a : Expr} {env : Env} (hp : (apos.endLine == pos.line) = true) (hs : starEach [a] env = (false, eval a env) :: starEach [] env) : eval (.Call (.Attribute o name apos) [a] [] pos) env = (do
      let ov ← attributeBase o name env (eval o env)
      standAt apos.atName
      let (f, first) ← holding [ov] (getMethod ov name (do return (← importBound o env).getD true))
      callWith pos f first (backTo pos (starEach [a] env)) []) := by
  show (do
      let ov ← attributeBase o name env (eval o env)
      standAt apos.atName
      methodCall o name apos pos env ov 1 (backTo pos (starEach [a] env)) []) = _
  have e : methodCallForm 1 (backTo pos (starEach [a] env)) [] = true := by
    rw [hs]
    rfl
  unfold methodCall
  rw [e]
  unfold methodCallPos calleeOf
  rw [hp]
  simp only [Bool.not_true, Bool.false_or, if_true, pure_bind]
/-- what __init__ leaves of a fresh exception at x, over the heap h -/
structure BtEnd (h h' : Heap) (x C dx t1 : Addr) (v : Value) : Prop where
  keep : ∀ b o, h.get? b = some o → h'.get? b = some o
  obj : h'.get? x = some { cls := .ref C, dict := some dx, data := .fields #[.ref t1, .none, .none, .none, .bool false, .none] }
  dbig : h.objs.size ≤ dx
  dne : dx ≠ x
  ns : h'.Ns1 dx (fun y => if y = "value" then some v else none)
theorem str_len2 (a b : Str) : (a ++ b).length = a.length + b.length := by
  show (a.cps ++ b.cps).size = _
  rw [Array.size_append]
  rfl
theorem len1 (v : Value) : [v].length ≤ sizeLine := by
  rw [sizeLine_eq]
  exact (by decide : 1 ≤ 16777216)
section
variable {prog : Program} {w : World} {A : Around} {E : Value → Shared → Prop} {R : Result → Shared → Prop} {s : Shared} {K : Frag} {mg : Str → Option Value} {x0 : Str} {C fI : Addr}
theorem bt_init (T : ErrTxt prog K mg x0 C fI) {hp : Heap} {x t0 : Addr} {v : Value} (X : K.In hp) (G : hp.Ns mainGlobals mg) (Bl : ∃ mb, hp.Ns builtinsNs mb ∧ mb "super" = some (.type "super")) (hlim : s.heap.NoLimit)
    (k : ∀ b o, hp.get? b = some o → s.heap.get? b = some o) (hsz : hp.objs.size ≤ s.heap.objs.size) (hx : s.heap.get? x = some (excO C t0)) (hxn : hp.get? x = none) (hroom : A.depth < recursionLimit)
    (hq : ∀ h' tk' dx t1, BtEnd hp h' x C dx t1 v → R (.ok (.ret .none)) { s with heap := h', toks := tk' }) :
    codeAny (model prog w) A (.call (.ref fI) ⟨[.ref x, v], []⟩) R s := by
  obtain ⟨oc, od, an, kV, doc, pm, ct, osl, qual, cda, cc, ccl, cl, cdd, cld, ccs, csl, vs, file, tf, zM, p1, p2, q0, r0, r1, r2, r3, r4, r5, r6, r7, r8, ho, hcd, hcode, hvs, hfile, hcell, hM, hline⟩ := T.fn
  obtain ⟨nm, q, N, bs, bm, sn, sub, ab, col, dd, k0, k1, k2, k3, k5, hC, hbm⟩ := T.cls
  obtain ⟨mb, hb, hmb⟩ := Bl
  have hcl : clsIn K C = some { name := nm, bases := bs, mro := .ref C :: bm, ns := N, qualname := q, hasDict := true, slotNames := sn, subclasses := sub, abstract := ab, collection := col, hasDel := false } := by unfold clsIn; rw [hC] <;> rfl
  have Xs : K.In s.heap := X.keeps k
  have noc : ∀ y ∈ eS.names, y.2 ≠ .cell := by decide +kernel
  have locs : ∀ y ∈ [(("self" : Str), Value.ref x), ("value", v)], eS.names.lookup y.1 = some .local := fun y hy => by
    rcases List.mem_cons.mp hy with rfl | hy
    · rfl
    · rw [List.mem_singleton.mp hy]
      rfl
  refine ks_codeAny_call_defAt (body := eB (eM zM q0) r0 r1 r2 r3 r4 r5 r6 r7 r8) (binds := [("self", .ref x), ("value", v)]) hroom (Xs _ _ ho) rfl hlim (codeRec_of Xs hcd) rfl (BindsTo.of_eq (by first | rfl | with_unfolding_all rfl)) noc locs (fun h₁ hns hk₁ => ?_) rfl rfl rfl
  have Fr1 : Fr hp s.heap.objs.size h₁ (fun y => [(("self" : Str), Value.ref x), ("value", v)].reverse.lookup y) := ⟨hns, fun b o e => hk₁ b o (k b o e), hsz⟩
  have N1 : News hp s.heap.objs.size h₁ [(x, excObj C t0 none .none)] := fun p hp' => by
    rw [List.mem_singleton.mp hp']
    exact ⟨hk₁ _ _ hx, Nat.ne_of_lt (Heap.lt_size hx), hxn⟩
  show _root_.PySem.wpAt (model prog w) _ (.func _ (ksEnv qual eS s.heap.objs.size fI (.ref cda) cc)) (execs (eB (eM zM q0) r0 r1 r2 r3 r4 r5 r6 r7 r8) (ksEnv qual eS s.heap.objs.size fI (.ref cda) cc)) _ _ _
  refine ks_wpAt_execs_cons (ks_wpAt_Expr_any (ks_wpAt_MethodCall ?_ (call_line hline rfl)))
  generalize hE : (fun e s' => wpAny (model prog w) _ (leaving _ e) (fun x s'' => R (Except.error e) s'') (fun e' s'' => R (Except.error e') s'') s') = EE
  have X1 : K.In h₁ := X.keeps Fr1.keep
  -- super()
  refine ks_wpAt_super_base (env := ksEnv qual eS s.heap.objs.size fI (.ref cda) cc) rfl rfl rfl rfl (X1 _ _ ho) rfl rfl rfl (X1 _ _ hcode) rfl hvs hfile T.top ?_
  refine ks_loadName_global rfl rfl (loadGlobal_builtin (env := ksEnv qual eS s.heap.objs.size fI (.ref cda) cc) (G.keeps Fr1.keep) T.gs (hb.keeps Fr1.keep) hmb ⟨rfl, ?_⟩)
  refine wpAny_loadName_free rfl rfl rfl ⟨_, X1 _ _ hcell, rfl⟩ ?_
  refine wpAny_loadName_local (v := .ref x) rfl rfl hns rfl ?_
  refine ks_wpAny_isType_cls (X1 _ _ hC) rfl ⟨rfl, ?_⟩
  refine ks_wpAny_call_super (X1 _ _ hC) rfl (hk₁ _ _ hx) rfl (fun c z => by cases z) (looks_mroIn X1 T.slf) (fun h2 hso k2 => ?_)
  obtain ⟨F2, N2, l2⟩ := ks_newsPush (s := ⟨h₁, s.gens, s.drawn, s.toks + 2, s.os⟩) Fr1 N1 rfl hso k2
  -- its __init__, bound
  refine kxs_method kxs_ValueError F2 X N2 (List.mem_cons_self ..) (InstAt.of_exc0 (c2 := .none) (t := t0) N2 (List.mem_cons_of_mem _ (List.mem_cons_self ..))) T.opq T.sup T.veC rfl (fun u h3 F3 N3 l3 => ?_)
  refine kxs_callWith1 N3 (List.mem_cons_self ..) ?_ rfl rfl
  refine Calls.spliced_cons ?_
  show wpAny _ _ (eval (eM zM q0) (ksEnv qual eS s.heap.objs.size fI (.ref cda) cc)) _ _ _
  refine Calls.Constant_str ?_
  refine Calls.spliced_nil ⟨kxs_at N3 (List.mem_cons_self ..), ?_⟩
  have nx1 : h₁.objs.size ≠ x := fun z => Nat.lt_irrefl _ (z ▸ l2 _ (List.mem_cons_self ..) : x < x)
  have nx2 : u ≠ x := fun z => Nat.lt_irrefl _ (z ▸ l3 _ (List.mem_cons_of_mem _ (List.mem_cons_self ..)) : x < x)
  refine kxs_call F3 X N3 PySem.F.excBase_ValueError T.ei (List.mem_cons_self ..) (.tail nx2 (.tail nx1 (.head fun p hp' => by cases hp'))) (len1 _) (fun t' h4 F4 N4 l4 => ?_)
  -- self.field = field
  have X4 : K.In h4 := X.keeps F4.keep
  have hx4 : h4.get? x = some (excO C t') := (N4 (x, excObj C t' none .none) (List.mem_cons_of_mem _ (List.mem_cons_of_mem _ (List.mem_cons_of_mem _ (List.mem_cons_self ..))))).1
  refine wpAt_of_wpAny (wpAny_execs_cons (plainObj_wpAny_Assign_Attribute ?_))
  refine wpAny_Name (wpAny_loadName_local (v := v) rfl rfl F4.ns rfl ?_) rfl
  refine wpAny_Name (wpAny_loadName_local (v := .ref x) rfl rfl F4.ns rfl ?_) rfl
  refine set_plain X4 (ox := excO C t') (od := none) ⟨hx4, rfl, rfl, trivial⟩ T.sa ?_
  refine exc_osa X4 hx4 hcl (show refsVE (.ref C :: bm) = true from hbm) rfl T.noN (fun h5 tk5 dx k5 dn dne hx5 hn5 => ?_)
  have zz : s.heap.objs.size < h4.objs.size := F4.ns.lt
  exact wpAny_execs_nil (hq h5 tk5 dx t' ⟨fun b o e => k5 b o (fun z => by rw [z, hxn] at e; cases e) (F4.keep b o e), hx5, Nat.le_trans hsz (Nat.le_trans (Nat.le_of_lt zz) dn), dne, hn5⟩)
end
/-- a made one -/
structure BtMade (h h' : Heap) (e C d : Addr) (v : Value) : Prop where
  keep : ∀ b o, h.get? b = some o → h'.get? b = some o
  big : h.objs.size ≤ e
  obj : ∃ t1 : Addr, h'.get? e = some { cls := .ref C, dict := some d, data := .fields #[.ref t1, .none, .none, .none, .bool false, .none] }
  dbig : h.objs.size ≤ d
  dne : d ≠ e
  ns : h'.Ns1 d (fun y => if y = "value" then some v else none)
section
variable {prog : Program} {w : World} {A : Around} {R : Result → Shared → Prop} {s : Shared} {K : Frag} {mg : Str → Option Value} {x0 : Str} {C fI : Addr}
theorem bt_made (T : ErrTxt prog K mg x0 C fI) {v : Value} (X : K.In s.heap) (G : s.heap.Ns mainGlobals mg) (Bl : ∃ mb, s.heap.Ns builtinsNs mb ∧ mb "super" = some (.type "super")) (hlim : s.heap.NoLimit) (hroom : A.depth + 1 < recursionLimit)
    (hq : ∀ h' tk' e d, BtMade s.heap h' e C d v → R (.ok (.ret (.ref e))) { s with heap := h', toks := tk' }) : codeAny (model prog w) A (.call (.ref C) ⟨[v], []⟩) R s := by
  obtain ⟨nm, q, N, bs, bm, sn, sub, ab, col, dd, k0, k1, k2, k3, k5, hC, hbm⟩ := T.cls
  obtain ⟨g0, gs, dr, t, os⟩ := s
  let g2 : Heap := (g0.push (kdv_tup [v])).push (excO C g0.objs.size)
  have up : ∀ b o, g0.get? b = some o → g2.get? b = some o := fun b o e => Heap.get?_push_of_some _ (Heap.get?_push_of_some _ e)
  have at1 : g2.get? (g0.objs.size + 1) = some (excO C g0.objs.size) := by
    show ((g0.push (kdv_tup [v])).push (excO C g0.objs.size)).get? (g0.objs.size + 1) = _
    heap_get
  have sz2 : g2.objs.size = g0.objs.size + 1 + 1 := by
    show ((g0.push (kdv_tup [v])).push (excO C g0.objs.size)).objs.size = _
    rw [Heap.size_push, Heap.size_push]
  have free1 : g0.get? (g0.objs.size + 1) = none := by
    cases e : g0.get? (g0.objs.size + 1) with
    | none => rfl
    | some o => exact absurd (Nat.lt_of_succ_lt (Heap.lt_size e)) (Nat.lt_irrefl _)
  refine call_own F.excBase_ValueError (fun Y => refsVE_contains Y bm hbm) (X _ _ hC) (looks_findIn X T.iC) (fun self => bind_fn X self T.tC) (len1 _) ?_
  refine bt_init (s := ⟨g2, gs, dr, t, os⟩) (hp := g0) T X G Bl (hlim.keeps up) up (by show g0.objs.size ≤ g2.objs.size; omega) at1 free1 hroom fun h' t' dx t1 ⟨k, ho, dbig, dne, hns⟩ => ?_
  exact ⟨rfl, hq h' t' (g0.objs.size + 1) dx ⟨k, Nat.le_succ _, ⟨t1, ho⟩, dbig, dne, hns⟩⟩
end
end FsBvalue
namespace FsBvalue
open PySem PySem.Spec PyProof.Rows L2
theorem relO_one {v : V} {u : Value} (r : RelV v u) (g : Str) : RelO (List.lookup g [(("value" : Str), v)]) (if g = "value" then some u else none) := by
  by_cases h : g = "value"
  · rw [h, if_pos rfl, show List.lookup ("value" : Str) [(("value" : Str), v)] = some v by simp [List.lookup]]
    exact r
  · rw [if_neg h, show List.lookup g [(("value" : Str), v)] = none by simp [List.lookup, show (g == "value") = false by simpa using h]]
    trivial
/-- X(v), its one field v -/
def tNew (C : Addr) (te : TE) : TE := fun σ H Q => te σ H fun v H1 => ∀ a d, H1 a = none → H1 d = none → d ≠ a → Q (.ref a) (upd (upd H1 a (exo a C (some d))) d (exd d [("value", v)]))
theorem pe_new {X : Cx} {C fI : Addr} {x : Str} {e : Expr} {te : TE} {p pos : Pos} (T : ErrTxt X.prog X.K X.mg x C fI) (hr : Room 2 X.A) (he : PE X e te) (hg : Gl X x) (hdb : (x == ("__debug__" : Str)) = false := by decide)
    (hs : starEach [e] X.env = (false, eval e X.env) :: starEach [] X.env := by rfl) (hpl : (backTo pos (starEach [] X.env)).any (·.1) = false := by rfl) : PE X (.Call (.Name x p) [e] [] pos) (tNew C te) := by
  refine ⟨fun pins s σ H Q I h => ?_⟩
  refine wpAny_Call_Name_kw (ld_glob I hg T.gC ?_ hdb)
  refine PySem.W.callWith_K (h₀ := X.base) I.ok.mod.kin T.kC ?_ hs hpl
  rw [hs]
  refine Calls.spliced_cons (thn (he.run pins s σ H _ I h) fun u s1 ⟨v, H1, I1, r1, q1⟩ => ?_)
  refine Calls.spliced_nil ⟨I1.kIn, ?_⟩
  show wpAny _ _ (call (.ref C) [u]) _ _ _
  have lim := I1.nolimit
  obtain ⟨mb, b1, b2⟩ := I1.ok.mod.blt
  have gl : s1.heap.Ns mainGlobals X.mg := I1.ok.mod.glob.keeps I1.bk
  have bl : ∃ mb, s1.heap.Ns builtinsNs mb ∧ mb "super" = some (.type "super") := ⟨mb, b1.keeps I1.bk, (b2 _ (by decide)).trans Boot.«super»⟩
  obtain ⟨g0, gs, dr, t, os⟩ := s1
  refine wpAny_call (bt_made T I1.kIn gl bl lim (by have := hr.dp; omega) fun h' t' a d M => ?_)
  obtain ⟨t1, ho⟩ := M.obj
  obtain ⟨G, ge1, ge2⟩ := restrict h' fun b => decide (b ≠ d)
  have same : ∀ b, b ≠ d → G.get? b = h'.get? b := fun b hb => ge1 b (decide_eq_true hb)
  have gone : G.get? d = none := ge2 d (by simp)
  have old : ∀ b o, g0.get? b = some o → G.get? b = some o := fun b o z => (same b (Nat.ne_of_lt (Nat.lt_of_lt_of_le (Heap.lt_size z) M.dbig))).trans (M.keep b o z)
  have na := I1.hok.fresh M.big
  have nd := I1.hok.fresh M.dbig
  have I2 : Inv X pins σ (upd H1 a (exo a C (some d))) ⟨G, gs, dr, t', os⟩ := I1.laid (t' := t') old M.big (exo_ok ((same a (Ne.symm M.dne)).trans ho))
  have I3 := I2.laidN (h' := h') (a := d) (o := exd d [("value", v)]) (t' := t') (fun b o z => by
    by_cases hb : b = d
    · rw [hb, gone] at z
      cases z
    · exact (same b hb).symm.trans z) gone (by rw [upd_ne M.dne]; exact nd) (exd_ok M.ns (relO_one r1))
  exact ⟨.ref a, _, I3, rfl, q1 a d na nd M.dne⟩
end FsBvalue

set_option Elab.async false
set_option linter.all false
set_option maxRecDepth 100000
set_option maxHeartbeats 4000000
namespace Fs
open PySem L2 Evl FsE FsC FsV
def topS (i : Nat) : Stmt := PySem.Challenge.pw_fullseats_k13_errors.main.body.getD i (.Pass ⟨0, 0, 0, 0⟩)
/-- it evaluates to something with this word -/
def EvS (te : TE) (σ : L2.St) (H : Hp) (Pv : V → Hp → Prop) : Prop := ∀ H1, Ex H H1 → ∀ Q : VK, (∀ v H2, Ex H1 H2 → Pv v H2 → Q v H2) → te σ H1 Q
section
variable {σ : L2.St} {H : Hp} {te ta : TE} {Pv : V → Hp → Prop} {K : PySem.W.Frag} {D : Ends} {tz : TS}
theorem q_appS {l : Addr} {xs : List V} (hl : H l = some (.lst xs)) (ha : Ev ta σ H (.ref l)) (h : EvS te σ H Pv) (hz : xs.length < 100000) (k : ∀ v H1, Ex H H1 → Pv v H1 → tz D σ (upd H1 l (.lst (xs ++ [v])))) :
    tSeq (tDrop (tBM K "list" rAppend ta (tCons te tNil))) tz D σ H := ha H (Ex.refl H) _ fun H1 e1 =>
  ⟨Or.inl ⟨rfl, xs, sq_of (e1 l _ hl)⟩, h H1 e1 _ fun v H2 e2 hv => ⟨l, xs, v, rfl, rfl, e2 l _ (e1 l _ hl), sz_lt hz, k v H2 (e1.trans e2) hv⟩⟩
theorem es_if {t : TT} {b : Bool} {tb : TE} (h : EvT t σ H b) (h1 : b = true → EvS ta σ H Pv) (h2 : b = false → EvS tb σ H Pv) : EvS (tIf t ta tb) σ H Pv := fun H1 e Q q => h H1 e _ fun H2 e2 => by
  cases b with
  | true => exact h1 rfl H2 (e.trans e2) Q fun v H3 e3 => q v H3 (e2.trans e3)
  | false => exact h2 rfl H2 (e.trans e2) Q fun v H3 e3 => q v H3 (e2.trans e3)
end
structure LawT (K : PySem.W.Frag) (mg : Str → Option Value) : Prop where
  len : mg "len" = none
  int : mg "int" = none
  abs : mg "abs" = none
  range : mg "range" = none
  isi : mg "isinstance" = none
  ve : mg "ValueError" = none
section
variable {P : Program} {w : World} {K : PySem.W.Frag} {mg : Str → Option Value} {base : Heap}
theorem rc_int {K : PySem.W.Frag} {i : Int} {H : Hp} : RC (fun xs H Q => (∃ i, xs = [V.int i] ∧ Q (.int i) H) ∨ ∃ k, xs = [V.bl k] ∧ Q (.int (if k then 1 else 0)) H) [.int i] H (.int i) := fun H1 _ Q q => .inl ⟨i, rfl, q H1 (Ex.refl H1)⟩
/-- _law_cell_at(script, k): some int -/
def spCellAt (K : PySem.W.Frag) : Sp := fun vs H Q _ => ∃ (a : Addr) (ns : List Int) (k : Nat), vs = [.ref a, .int (k : Int)] ∧ SqL K H a (ns.map V.int) ∧ ∀ i : Int, RetV (.int i) H Q
theorem scCellAt : FnScope ["_law_script", "_law_k"] ["_law_script", "_law_k"] (defScope (topS 23)) := ⟨rfl, rfl, rfl, by decide +kernel, rfl, by decide +kernel, by decide +kernel⟩
theorem ok_cell_at {f : Addr} {fd : FuncData} (F : Fun K "_law_cell_at" "_law_cell_at" (topS 23) f fd) (T : LawT K mg) : FnOk P w K mg base CX0 1 f fd ["_law_script", "_law_k"] (spCellAt K) := by
  refine F.ok scCellAt (fun vs H Q E h => ?_) (fun cdv A outer s H vs Q E hr h => ?_)
  · obtain ⟨a, ns, k, rfl, _⟩ := h
    rfl
  · obtain ⟨a, ns, k, rfl, hS, q⟩ := h
    refine ⟨_, pss_cons (ps_if (pt_cmpR op_lt (pv 1) (pe_callB call_len_seq (by rfl) T.len PySem.boot_len (pa_cons (pv 0) pa_nil)) (nomark _)) (pss_one (ps_ret (pe_ix ix_list (pv 0) (pv 1) (fun _ _ => rfl)))) pss_nil) (pss_one (ps_ret pe_int)), ?_⟩
    refine q_when (b := decide ((k : Int) < ((ns.map V.int).length : Nat))) (et_test (ev_op (ev_var rfl) (ev_cb (ea_cons (ev_var rfl) ea_nil) (fun H2 e2 Q' q' => ⟨a, _, rfl, .inl (ex_l e2 hS), q' H2 (Ex.refl H2)⟩)) rv_I0)) (fun hb H1 e1 => ?_) (fun hb H1 e1 => ?_)
    · have hk : k < ns.length := by
        have : (k : Int) < ((ns.map V.int).length : Nat) := by simpa using hb
        rw [List.length_map] at this
        omega
      refine s_ret (v := .int ns[k]) (ev_op (ev_var rfl) (ev_var rfl) (rv_ixL (ex_l e1 hS) (atI_nat (by rw [List.getElem?_map, List.getElem?_eq_getElem hk]; rfl)))) (fun H2 e2 => q _ H2 (e1.trans e2))
    · exact s_ret ev_c (fun H2 e2 => q _ H2 (e1.trans e2))
/-- _law_mixed(cell, k): some int -/
def spMixed : Sp := fun vs H Q _ => ∃ (c : Int) (k : Nat), vs = [.int c, .int (k : Int)] ∧ k ≤ 1000 ∧ ∀ i : Int, RetV (.int i) H Q
theorem scMixed : FnScope ["_law_cell", "_law_k", "_law_spread"] ["_law_cell", "_law_k"] (defScope (topS 24)) := ⟨rfl, rfl, rfl, by decide +kernel, rfl, by decide +kernel, by decide +kernel⟩
theorem ok_mixed {f : Addr} {fd : FuncData} (F : Fun K "_law_mixed" "_law_mixed" (topS 24) f fd) (T : LawT K mg) : FnOk P w K mg base CX0 1 f fd ["_law_cell", "_law_k"] spMixed := by
  refine F.ok scMixed (fun vs H Q E h => ?_) (fun cdv A outer s H vs Q E hr h => ?_)
  · obtain ⟨c, k, rfl, _⟩ := h
    rfl
  · obtain ⟨c, k, rfl, hk, q⟩ := h
    refine ⟨_, pss_cons (ps_set (i := 2) scMixed.nd rfl (Or.inl rfl) (pe_op op_mod (pe_callTy call_int1 (by rfl) T.int (by decide +kernel) (pa_cons (pe_op op_pow (pe_op op_add (pe_op op_add (pe_op op_mod (pe_callTy call_int1 (by rfl) T.int (by decide +kernel) (pa_cons (pv 0) pa_nil)) pe_int) (pe_op op_mul pe_int (pv 1))) pe_int) pe_int) pa_nil)) pe_int))
      (pss_one (ps_ret (pe_op op_mod (pe_callTy call_int1 (by rfl) T.int (by decide +kernel) (pa_cons (pe_op op_mul (pe_op op_add (pv 2) (pv 1)) pe_int) pa_nil)) pe_int))), ?_⟩
    have h1 := Int.emod_nonneg c (b := 2147483647) (by decide)
    have h2 := Int.emod_lt_of_pos c (b := 2147483647) (by decide)
    refine q_asg (v := .int ((c % 2147483647 + 7919 * (k : Int) + 104729) ^ (5 : Int).toNat % 2147483647)) (ev_op (x := .int ((c % 2147483647 + 7919 * (k : Int) + 104729) ^ (5 : Int).toNat)) (ev_cb (ea_cons (ev_op (x := .int (c % 2147483647 + 7919 * (k : Int) + 104729)) (ev_op (x := .int (c % 2147483647 + 7919 * (k : Int))) (ev_op (x := .int (c % 2147483647)) (ev_op (x := .int c) (ev_cb (ea_cons (ev_var rfl) ea_nil) (rc_int (K := K))) ev_c (rv_I (by decide))) (ev_op ev_c (ev_var rfl) (rv_I (.inl ⟨by decide, by decide⟩))) rv_I0) ev_c rv_I0) ev_c (rv_I ⟨by decide, by decide, by omega⟩)) ea_nil) (rc_int (K := K))) ev_c (rv_I (by decide))) (fun H1 e1 => ?_)
    generalize (c % 2147483647 + 7919 * (k : Int) + 104729) ^ (5 : Int).toNat % 2147483647 = sp
    exact s_ret (v := .int ((sp + (k : Int)) * 40692 % 2147483629)) (ev_op (x := .int ((sp + (k : Int)) * 40692)) (ev_cb (ea_cons (ev_op (x := .int (sp + (k : Int))) (y := .int 40692) (ev_op (ev_var rfl) (ev_var rfl) rv_I0) ev_c (rv_I (.inr ⟨by decide, by decide⟩))) ea_nil) (rc_int (K := K))) ev_c (rv_I (by decide))) (fun H2 e2 => q _ H2 (e1.trans e2))
/-- _law_row(cell, many): so many ints from 0 to 999 -/
def RowOk (row : List Int) : Prop := ∀ v ∈ row, 0 ≤ v ∧ v < 1000
def spRow : Sp := fun vs H Q _ => ∃ (c : Int) (n : Nat), vs = [.int c, .int (n : Int)] ∧ n ≤ 500 ∧ ∀ row : List Int, row.length = n → RowOk row → RetL (row.map V.int) H Q
theorem scRow : FnScope ["_law_cell", "_law_many", "_law_rest", "_law_row_here", "_law_k"] ["_law_cell", "_law_many"] (defScope (topS 25)) := ⟨rfl, rfl, rfl, by decide +kernel, rfl, by decide +kernel, by decide +kernel⟩
theorem rowOk_add {row : List Int} {v : Int} (h : RowOk row) (h0 : 0 ≤ v) (h1 : v < 1000) : RowOk (row ++ [v]) := fun x hx => by
  rcases List.mem_append.mp hx with hx | hx
  · exact h x hx
  · rw [List.mem_singleton.mp hx]
    exact ⟨h0, h1⟩
theorem ok_row {f : Addr} {fd : FuncData} (F : Fun K "_law_row" "_law_row" (topS 25) f fd) (T : LawT K mg) (GM : CalX P w K mg base CX0 1 "_law_mixed" spMixed) : FnOk P w K mg base CX0 2 f fd ["_law_cell", "_law_many"] spRow := by
  refine F.ok scRow (fun vs H Q E h => ?_) (fun cdv A outer s H vs Q E hr h => ?_)
  · obtain ⟨c, n, rfl, _⟩ := h
    rfl
  · obtain ⟨c, n, rfl, hn, q⟩ := h
    refine ⟨_, pss_cons (ps_set (i := 2) scRow.nd rfl (Or.inl rfl) (pe_ifExp (pt_cmpR op_ge (pe_callB call_abs (by rfl) T.abs (by decide +kernel) (pa_cons (pv 0) pa_nil)) (pe_op op_pow pe_int pe_int) (nomark _)) (pe_callB call_abs (by rfl) T.abs (by decide +kernel) (pa_cons (pv 0) pa_nil)) pe_int))
      (pss_cons (ps_set (i := 3) scRow.nd rfl (Or.inl rfl) (pe_lst pa_nil))
      (pss_cons (ps_for PassesOwn.never rfl (pi_range1 rfl T.range (pa_cons (pv 1) pa_nil)) (pg_name (i := 4) scRow.nd rfl (Or.inl rfl))
        (pss_cons (ps_expr (pe_bm PySem.F.plainAttrs_list PySem.F.slot_list_append PySem.F.type_list_append mt_append (pv 3) (pa_cons (pe_op op_mod (pe_callTy call_int1 (by rfl) T.int (by decide +kernel) (pa_cons (pe_ifExp (pt_cmpR op_gt (pv 2) pe_int (nomark _)) (pv 2) (pe_cx (E := fun _ => E0) GM hr (by decide) (by rfl) at0 (pa_cons (pv 0) (pa_cons (pv 4) pa_nil)))) pa_nil)) pe_int) pa_nil)))
        (pss_one (ps_set (i := 2) scRow.nd rfl (Or.inl rfl) (pe_op op_fdiv (pv 2) pe_int)))))
      (pss_one (ps_ret (pv 3))))), ?_⟩
    have habs : RC (fun xs H Q => ∃ i, xs = [V.int i] ∧ Q (.int (if i < 0 then -i else i)) H) [.int c] H (.int (if c < 0 then -c else c)) := fun H4 _ Q' q' => ⟨c, rfl, q' H4 (Ex.refl H4)⟩
    refine q_asg (v := .int (if (10 : Int) ^ (18 : Int).toNat ≤ (if c < 0 then -c else c) then (if c < 0 then -c else c) else 0)) (ev_if (b := decide ((10 : Int) ^ (18 : Int).toNat ≤ if c < 0 then -c else c)) (et_test (ev_op (ev_cb (ea_cons (ev_var rfl) ea_nil) (fun H4 _ Q' q' => ⟨c, rfl, q' H4 (Ex.refl H4)⟩)) (ev_op ev_c ev_c (rv_I ⟨by decide, by decide, by decide⟩)) rv_I0))
      (fun hb => ev_is (ev_cb (ea_cons (ev_var rfl) ea_nil) (fun H4 _ Q' q' => ⟨c, rfl, q' H4 (Ex.refl H4)⟩)) (by rw [if_pos (of_decide_eq_true hb)])) (fun hb => ev_is ev_c (by rw [if_neg (of_decide_eq_false hb)]))) (fun H1 e1 => ?_)
    generalize (if (10 : Int) ^ (18 : Int).toNat ≤ (if c < 0 then -c else c) then (if c < 0 then -c else c) else 0) = r0
    refine q_asgL (xs := []) (el_lst ea_nil (by decide)) (fun l H2 hl e2 h2 => ?_)
    have x2 := e1.trans e2
    have hl' := fresh_back e1 hl
    refine q_forR1 (n := (n : Int)) (ea_cons (ev_var rfl) ea_nil) (by omega) (fun i σ' H' => ∃ (row : List Int) (rest : Int) (v4 : Option V), σ' = [some (.int c), some (.int (n : Int)), some (.int rest), some (.ref l), v4] ∧ H' l = some (.lst (row.map V.int)) ∧ row.length = i ∧ RowOk row ∧ Ex H H')
      (fun H4 e4 => ⟨[], r0, none, rfl, e4 _ _ h2, rfl, (fun v hv => nomatch hv), x2.trans e4⟩) (fun i σ' H' hi ⟨row, rest, v4, hσ, hr', hlen, hrow, he⟩ => ?_) (fun σ' H' ⟨row, rest, v4, hσ, hr', hlen, hrow, he⟩ => ?_)
    · subst hσ
      have hsz : (row.map V.int).length < 100000 := by rw [List.length_map]; omega
      have app : ∀ v : Int, row.map V.int ++ [V.int v] = (row ++ [v]).map V.int := fun v => by rw [List.map_append]; rfl
      have one : EvS (tIf (tTest (tOp (rI0 fun i j => .bl (decide (i > j))) (tVar 2) (tC (.int 0)))) (tVar 2) (tCallS spMixed (fun _ => E0) (tCons (tVar 0) (tCons (tVar 4) tNil)))) [some (.int c), some (.int (n : Int)), some (.int rest), some (.ref l), some (.int (i : Int))] H' (fun v _ => ∃ m : Int, v = .int m) := by
        refine es_if (b := decide (rest > 0)) (et_test (ev_op (ev_var rfl) ev_c rv_I0)) (fun _ => fun H5 e5 Q' q' => ?_) (fun _ => fun H5 e5 Q' q' => ?_)
        · exact ⟨_, rfl, q' _ H5 (Ex.refl H5) ⟨rest, rfl⟩⟩
        · exact ⟨_, rfl, _, rfl, c, i, rfl, by omega, fun m H6 e6 => q' _ H6 e6 ⟨m, rfl⟩⟩
      refine q_appS (xs := row.map V.int) (Pv := fun v _ => ∃ m : Int, v = .int m ∧ 0 ≤ m ∧ m < 1000) hr' (ev_var rfl) (fun H5 e5 Q' q' => ?_) hsz (fun v H5 e5 ⟨m, hv, m0, m1⟩ => ?_)
      · refine one H5 e5 _ (fun v H6 e6 ⟨m, hv⟩ => ?_)
        subst hv
        exact .inl ⟨m, rfl, m, 1000, rfl, rfl, (by decide : (0 : Int) < 1000), q' _ H6 e6 ⟨_, rfl, Int.emod_nonneg _ (by decide), Int.emod_lt_of_pos _ (by decide)⟩⟩
      · subst hv
        refine s_asg (v := .int (rest / 1000)) (ev_op (x := .int rest) (ev_var rfl) ev_c (rv_I ⟨by decide, by decide⟩)) (fun H6 e6 => ?_)
        exact ⟨row ++ [m], _, _, rfl, e6 _ _ (by rw [← app]; exact upd_same), (by rw [List.length_append, hlen]; rfl), rowOk_add hrow m0 m1, (Ex.mut (he.trans e5) hl').trans e6⟩
    · subst hσ
      have hn' : row.length = n := by simpa using hlen
      exact s_ret (ev_var rfl) (fun H4 e4 => q row hn' hrow l H4 hl' (he.trans e4) (e4 _ _ hr'))
end
end Fs

set_option Elab.async false
set_option linter.all false
set_option maxRecDepth 100000
set_option maxHeartbeats 4000000
namespace Fs
open PySem L2 Evl FsE FsC FsV
def signsS : Str := "abcxyz019 _-"
theorem at_of {α : Type} {xs : List α} {i : Int} (h0 : 0 ≤ i) (h1 : i < xs.length) : ∃ x, x ∈ xs ∧ atI xs i = some x := by
  obtain ⟨j, rfl⟩ : ∃ j : Nat, i = (j : Int) := ⟨i.toNat, by omega⟩
  have hj : j < xs.length := by omega
  exact ⟨xs[j], List.getElem_mem hj, atI_nat (List.getElem?_eq_getElem hj)⟩
theorem row_getN {row : List Int} {n i : Nat} (hl : row.length = n) (hr : RowOk row) (hi : i < n) : ∃ v, row[i]? = some v ∧ atI (row.map V.int) (i : Int) = some (.int v) ∧ 0 ≤ v ∧ v < 1000 := by
  have h : i < row.length := by omega
  refine ⟨row[i], List.getElem?_eq_getElem h, atI_nat (by rw [List.getElem?_map, List.getElem?_eq_getElem h]; rfl), ?_⟩
  exact hr _ (List.getElem_mem h)
/-- the sign that a number tells -/
def sgn (v : Int) : Str := ⟨#[signsS.cps.toList.getD (v / 5 % 12).toNat 0]⟩
theorem sgn_at (v : Int) : atI signsS.cps.toList (v / 5 % 12) = some (signsS.cps.toList.getD (v / 5 % 12).toNat 0) := by
  have h0 := Int.emod_nonneg (v / 5) (b := 12) (by decide)
  have h1 := Int.emod_lt_of_pos (v / 5) (b := 12) (by decide)
  obtain ⟨j, hj⟩ : ∃ j : Nat, v / 5 % 12 = (j : Int) := ⟨(v / 5 % 12).toNat, by omega⟩
  have hlt : j < signsS.cps.toList.length := by
    show j < 12
    omega
  rw [hj]
  show atI signsS.cps.toList ((j : Nat) : Int) = some (signsS.cps.toList.getD j 0)
  rw [List.getD_eq_getElem?_getD, List.getElem?_eq_getElem hlt]
  exact atI_nat (List.getElem?_eq_getElem hlt)
def wordN (row : List Int) (k : Nat) : List Str := (List.range (row.getD k 0 % 7).toNat).map fun j => sgn (row.getD (k + j) 0)
theorem wordN_len (row : List Int) (k : Nat) : ((wordN row k).map (·.length)).sum ≤ 6 := by
  have h0 := Int.emod_nonneg (row.getD k 0) (b := 7) (by decide)
  have h1 := Int.emod_lt_of_pos (row.getD k 0) (b := 7) (by decide)
  have e : ∀ (f : Nat → Int) (xs : List Nat), ((xs.map fun j => sgn (f j)).map (·.length)).sum = xs.length := fun f xs => by
    induction xs with
    | nil => rfl
    | cons x xs ih =>
      show (sgn (f x)).length + ((xs.map fun j => sgn (f j)).map (·.length)).sum = xs.length + 1
      rw [ih, show (sgn (f x)).length = 1 from rfl]
      omega
  unfold wordN
  rw [e (fun j => row.getD (k + j) 0), List.length_range]
  omega
def spWords : Sp := fun vs H Q _ => ∃ (rl : Addr) (row : List Int), vs = [.ref rl] ∧ H rl = some (.lst (row.map V.int)) ∧ row.length = 30 ∧ RowOk row ∧ ∀ ws : List Str, ws.length = 6 → RetL (ws.map V.str) H Q
abbrev rInt : List V → Hp → VK → Prop := fun xs H Q => (∃ i, xs = [V.int i] ∧ Q (.int i) H) ∨ ∃ k, xs = [V.bl k] ∧ Q (.int (if k then 1 else 0)) H
abbrev rMod : R2 := rI (fun _ j => 0 < j) fun i j => .int (i % j)
abbrev rAdd : R2 := rI0 fun i j => .int (i + j)
abbrev rJoin (K : PySem.W.Frag) : V → List V → Hp → VK → Prop := fun x xs H Q => ∃ a p, ∃ ys : List Str, x = .str a ∧ xs = [.ref p] ∧ (SqL K H p (ys.map V.str) ∨ SqT K H p (ys.map V.str)) ∧ (ys.map (·.length)).sum + ys.length * a.length ≤ 16777216 ∧ Q (.str (Txt.join a ys)) H
abbrev teSign (K : PySem.W.Frag) : TE := tOp rIxS (tVar 1) (tOp rMod (tOp (rI CDiv fun i j => .int (i / j)) (tOp (rIxL K) (tVar 0) (tOp rAdd (tVar 2) (tVar 3))) (tC (.int 5))) (tC (.int 12)))
abbrev teCount (K : PySem.W.Frag) : TA := tCons (tOp rMod (tCB rInt (tCons (tOp (rIxL K) (tVar 0) (tVar 2)) tNil)) (tC (.int 7))) tNil
section
variable {P : Program} {w : World} {K : PySem.W.Frag} {mg : Str → Option Value} {base : Heap}
abbrev nsWords : List Str := ["_law_row_here", "_law_signs", "_law_k", "_law_j"]
abbrev scK : Scope := { kind := .function, names := [(PySem.Str.ofString ".0", .local), (PySem.Str.ofString "_law_k", .cell), (PySem.Str.ofString "range", .globalImplicit), (PySem.Str.ofString "int", .globalImplicit), (PySem.Str.ofString "_law_row_here", .cell), (PySem.Str.ofString "_law_signs", .cell)], isGenerator := false, isCoroutine := false }
theorem scWords : FnScope nsWords ["_law_row_here"] (defScope (topS 27)) := ⟨rfl, rfl, rfl, by decide +kernel, rfl, by decide +kernel, by decide +kernel⟩
theorem ok_words {f : Addr} {fd : FuncData} (F : Fun K "_law_words" "_law_words" (topS 27) f fd) (L : LawT K mg) : FnOk P w K mg base CX0 1 f fd ["_law_row_here"] spWords := by
  refine F.ok scWords (fun vs H Q E h => ?_) (fun cdv A outer s H vs Q E hr h => ?_)
  · obtain ⟨rl, row, rfl, _⟩ := h
    rfl
  · obtain ⟨rl, row, rfl, hrl, hlen, hrow, q⟩ := h
    refine ⟨_, pss_cons (ps_set (i := 1) scWords.nd rfl (Or.inr rfl) pe_str)
      (pss_one (ps_ret (pe_lc (own := [("_law_k", 2)]) (g := gName 2) (tt := tYes) (te := tM1 (rJoin K) (tC (.str "")) (tLc (iRng1 (teCount K)) (gName 3) tYes (teSign K) [3])) rfl scWords.nd
          (pi_range1 rfl L.range (pa_cons pe_int pa_nil)) (blkOk_by (own := [("_law_k", 2)]) (N := nsWords) (sc := defScope (topS 27)) (by decide +kernel))
          (fun _ _ _ _ _ => pg_name (i := 2) scWords.nd rfl (Or.inr rfl)) (fun _ _ _ _ _ => pts_nil)
          (fun _ _ _ _ _ => pe_join pe_str (pe_lc (own := [("_law_j", 3)]) (g := gName 3) (tt := tYes) (te := teSign K) rfl scWords.nd
            (pi_range1 rfl L.range (pa_cons (pe_op op_mod (pe_callTy call_int1 (by rfl) L.int (by decide +kernel) (pa_cons (pe_ix ix_list (pv 0) (pv 2) (fun _ _ => rfl)) pa_nil)) pe_int) pa_nil)) (by show BlkOk nsWords scK _ _; exact blkOk_by (by decide +kernel))
            (fun _ _ _ _ _ => pg_name (i := 3) scWords.nd rfl (Or.inl rfl)) (fun _ _ _ _ _ => pts_nil)
            (fun _ _ _ _ _ => pe_ix ix_str (pv 1) (pe_op op_mod (pe_op op_fdiv (pe_ix ix_list (pv 0) (pe_op op_add (pv 2) (pv 3)) (fun _ _ => rfl)) pe_int) pe_int) (fun _ _ => rfl))))))), ?_⟩
    refine q_asg (v := .str signsS) ev_c (fun H1 e1 => ?_)
    have em : ((List.range (6 : Int).toNat).map fun k => V.str (Txt.join "" (wordN row k))) = ((List.range 6).map fun k => Txt.join "" (wordN row k)).map V.str := by rw [List.map_map]; rfl
    refine s_retL (xs := ((List.range 6).map fun k => Txt.join "" (wordN row k)).map V.str) (by
      rw [← em]
      refine el_lcRm (n := 6) (fun k => V.str (Txt.join "" (wordN row k))) (ea_cons ev_c ea_nil) ⟨by decide, by decide⟩ (fun _ => rfl) (fun k H2 e2 hk => ?_)
      obtain ⟨vk, gk, ak, b0, b1⟩ := row_getN hlen hrow (i := k) (by omega)
      have x2 := e1.trans e2
      have dk : row.getD k 0 = vk := by rw [List.getD_eq_getElem?_getD, gk]; rfl
      have m0 := Int.emod_nonneg vk (b := 7) (by decide)
      have m1 := Int.emod_lt_of_pos vk (b := 7) (by decide)
      have inner : EvL (tLc (iRng1 (teCount K)) (gName 3) tYes (teSign K) [3]) ((wipe [some (.ref rl), some (.str signsS), none, none] [2]).set 2 (some (.int (k : Int)))) H2 ((wordN row k).map V.str) := by
        have g := el_lcRm (tn := teCount K) (te := teSign K) (j := 3) (vs := [3]) (σ := (wipe [some (.ref rl), some (.str signsS), none, none] [2]).set 2 (some (.int (k : Int)))) (H := H2) (n := vk % 7) (fun j => V.str (sgn (row.getD (k + j) 0)))
          (ea_cons (ev_op (x := .int vk) (ev_cb (ea_cons (ev_op (ev_var rfl) (ev_var rfl) (rv_ixL (sq_of (x2 _ _ hrl)) ak)) ea_nil) (rc_int (K := K))) ev_c (rv_I (by decide))) ea_nil) (by omega) (fun _ => rfl) (fun j H3 e3 hj => ?_)
        · have e9 : (List.range (vk % 7).toNat).map (fun j => V.str (sgn (row.getD (k + j) 0))) = (wordN row k).map V.str := by
            unfold wordN
            rw [List.map_map, dk]
            rfl
          rw [e9] at g
          exact g
        · obtain ⟨vj, gj, aj, _, _⟩ := row_getN hlen hrow (i := k + j) (by omega)
          have dj : row.getD (k + j) 0 = vj := by rw [List.getD_eq_getElem?_getD, gj]; rfl
          rw [dj]
          rw [show ((k + j : Nat) : Int) = (k : Int) + (j : Int) by omega] at aj
          exact ev_op (y := .int (vj / 5 % 12)) (ev_var rfl) (ev_op (x := .int (vj / 5)) (ev_op (x := .int vj) (y := .int 5) (ev_op (ev_var rfl) (ev_op (ev_var rfl) (ev_var rfl) rv_I0) (rv_ixL (sq_of ((x2.trans e3) _ _ hrl)) aj)) ev_c (rv_I ⟨by decide, by decide⟩)) ev_c (rv_I (by decide))) (rv_ixS (by decide +kernel) (sgn_at vj))
      exact fun H3 e3 Q' q' => ⟨⟨_, rfl⟩, inner H3 e3 _ fun p H4 _ e4 h4 => ⟨"", p, wordN row k, rfl, rfl, .inl (sq_of h4), by
        have := wordN_len row k
        show _ + (wordN row k).length * 0 ≤ _
        omega, q' H4 e4⟩⟩) (fun p H2 hp e2 h2 => q _ (by rw [List.length_map]; rfl) p H2 (fresh_back e1 hp) (e1.trans e2) h2)
end
end Fs

set_option Elab.async false
set_option linter.all false
set_option maxRecDepth 100000
set_option maxHeartbeats 4000000
namespace Fs
open PySem L2 Evl FsE FsC FsV
/-- the twenty classes, by their place in the law -/
structure KindT (K : PySem.W.Frag) (mg : Str → Option Value) (C : Nat → Addr) (S : Addr) : Prop where
  g0 : mg "BadTerm" = some (.ref (C 0))
  g1 : mg "BadText" = some (.ref (C 1))
  g2 : mg "NoName" = some (.ref (C 2))
  g3 : mg "WrongCount" = some (.ref (C 3))
  g4 : mg "Endless" = some (.ref (C 4))
  g5 : mg "Clash" = some (.ref (C 5))
  g6 : mg "NoMachine" = some (.ref (C 6))
  g7 : mg "NoSeating" = some (.ref (C 7))
  g8 : mg "NoMeeting" = some (.ref (C 8))
  g9 : mg "Dependent" = some (.ref (C 9))
  g10 : mg "NoRun" = some (.ref (C 10))
  g11 : mg "NoJoin" = some (.ref (C 11))
  g12 : mg "BadMessage" = some (.ref (C 12))
  g13 : mg "NoMessage" = some (.ref (C 13))
  g14 : mg "NetworkFull" = some (.ref (C 14))
  g15 : mg "BadSetting" = some (.ref (C 15))
  g16 : mg "AlreadyDriven" = some (.ref (C 16))
  g17 : mg "NotDone" = some (.ref (C 17))
  g18 : mg "NothingToUndo" = some (.ref (C 18))
  g19 : mg "BadCommand" = some (.ref (C 19))
  gS : mg "SeatsError" = some (.ref S)
  ex : ∀ i, i < 20 → ExcC K (C i)
  kk : ∀ i j, i < 20 → j < 20 → PySem.W.kitOne K (.ref (C i)) (.ref (C j)) = some (decide (i = j))
  ks : ∀ i, i < 20 → PySem.W.kitOne K (.ref (C i)) (.ref S) = some true
  kv : ∀ i, i < 20 → PySem.W.kitOne K (.ref (C i)) (.type "ValueError") = some true
def bls (i : Nat) (js : List Nat) : List V := js.map fun j => .bl (decide (i = j))
def spKinds (C : Nat → Addr) : Sp := fun vs H Q _ => ∃ (a : Addr) (i : Nat), vs = [.ref a] ∧ i < 20 ∧ IsErr H a (C i) ∧ RetL (bls i (List.range 20)) H Q
theorem isErr_ex {H H' : Hp} {a C : Addr} (e : Ex H H') (h : IsErr H a C) : IsErr H' a C := by
  rcases h with h | ⟨d, fs, h1, h2⟩
  · exact .inl (e _ _ h)
  · exact .inr ⟨d, fs, e _ _ h1, e _ _ h2⟩
theorem rc_isV {K : PySem.W.Frag} {H : Hp} {a C : Addr} {c : V} {cv : Value} {b : Bool} (h : IsErr H a C) (ex : ExcC K C) (hc : ∀ u, RelV c u → u = cv) (k : PySem.W.kitOne K (.ref C) cv = some b) : RC (rIsV K) [.ref a, c] H (.bl b) := fun H1 e Q q => ⟨a, C, c, cv, b, rfl, isErr_ex e h, ex, hc, k, q H1 (Ex.refl H1)⟩
theorem q_extL {σ : L2.St} {H : Hp} {ta te : TE} {l : Addr} {xs ys : List V} {tz : TS} {D : Ends} {K : PySem.W.Frag} (hl : H l = some (.lst xs)) (ha : Ev ta σ H (.ref l)) (h : EvL te σ H ys) (hz : xs.length + ys.length ≤ sizeLine) (k : ∀ H1, Ex H H1 → tz D σ (upd H1 l (.lst (xs ++ ys)))) :
    tSeq (tDrop (tBM K "list" rExtend ta (tCons te tNil))) tz D σ H := ha H (Ex.refl H) _ fun H1 e1 =>
  ⟨Or.inl ⟨rfl, xs, sq_of (e1 l _ hl)⟩, h H1 e1 _ fun p H2 hp e2 h2 => ⟨l, p, xs, ys, rfl, rfl, e2 l _ (e1 l _ hl), h2, hz, k H2 (e1.trans e2)⟩⟩
theorem el_catL {σ : L2.St} {H : Hp} {ta tb : TE} {l : Addr} {xs ys : List V} (ha : Ev ta σ H (.ref l)) (hl : H l = some (.lst xs)) (hb : EvL tb σ H ys) (hz : xs.length + ys.length ≤ sizeLine) : EvL (tOp rCat ta tb) σ H (xs ++ ys) := fun H1 e Q q =>
  ha H1 e _ fun H2 e2 => hb H2 (e.trans e2) _ fun p H3 hp e3 h3 => ⟨l, p, xs, ys, rfl, rfl, e3 _ _ (e2 _ _ (e _ _ hl)), h3, hz, fun r hr => q r _ (fresh_back (e2.trans e3) hr) ((e2.trans e3).trans (Ex.new hr)) upd_same⟩
section
variable {P : Program} {w : World} {K : PySem.W.Frag} {mg : Str → Option Value} {base : Heap} {C : Nat → Addr} {S : Addr}
theorem scKinds : FnScope ["_law_e", "_law_found"] ["_law_e"] (defScope (topS 26)) := ⟨rfl, rfl, rfl, by decide +kernel, rfl, by decide +kernel, by decide +kernel⟩
theorem ok_kinds {f : Addr} {fd : FuncData} (F : Fun K "_law_kinds" "_law_kinds" (topS 26) f fd) (L : LawT K mg) (T : KindT K mg C S) : FnOk P w K mg base CX0 1 f fd ["_law_e"] (spKinds C) := by
  refine F.ok scKinds (fun vs H Q E h => ?_) (fun cdv A outer s H vs Q E hr h => ?_)
  · obtain ⟨a, i, rfl, _⟩ := h
    rfl
  · obtain ⟨a, i, rfl, hi, he, q⟩ := h
    refine ⟨_, (pss_cons (ps_set (i := 1) scKinds.nd rfl (Or.inl rfl) (pe_lst (pa_cons (pe_callB (id := "isinstance") (r := rIsV K) call_isV (by rfl) L.isi (by decide +kernel) (pa_cons (pv 0) (pa_cons (pe_glob (v := .ref (C 0)) (by rfl) T.g0 rfl) pa_nil))) (pa_cons (pe_callB (id := "isinstance") (r := rIsV K) call_isV (by rfl) L.isi (by decide +kernel) (pa_cons (pv 0) (pa_cons (pe_glob (v := .ref (C 1)) (by rfl) T.g1 rfl) pa_nil))) (pa_cons (pe_callB (id := "isinstance") (r := rIsV K) call_isV (by rfl) L.isi (by decide +kernel) (pa_cons (pv 0) (pa_cons (pe_glob (v := .ref (C 2)) (by rfl) T.g2 rfl) pa_nil))) (pa_cons (pe_callB (id := "isinstance") (r := rIsV K) call_isV (by rfl) L.isi (by decide +kernel) (pa_cons (pv 0) (pa_cons (pe_glob (v := .ref (C 3)) (by rfl) T.g3 rfl) pa_nil))) pa_nil))))))
      (pss_cons (ps_expr (pe_bm PySem.F.plainAttrs_list PySem.F.slot_list_extend PySem.F.type_list_extend mt_extend (pv 1) (pa_cons (pe_lst (pa_cons (pe_callB (id := "isinstance") (r := rIsV K) call_isV (by rfl) L.isi (by decide +kernel) (pa_cons (pv 0) (pa_cons (pe_glob (v := .ref (C 4)) (by rfl) T.g4 rfl) pa_nil))) (pa_cons (pe_callB (id := "isinstance") (r := rIsV K) call_isV (by rfl) L.isi (by decide +kernel) (pa_cons (pv 0) (pa_cons (pe_glob (v := .ref (C 5)) (by rfl) T.g5 rfl) pa_nil))) (pa_cons (pe_callB (id := "isinstance") (r := rIsV K) call_isV (by rfl) L.isi (by decide +kernel) (pa_cons (pv 0) (pa_cons (pe_glob (v := .ref (C 6)) (by rfl) T.g6 rfl) pa_nil))) (pa_cons (pe_callB (id := "isinstance") (r := rIsV K) call_isV (by rfl) L.isi (by decide +kernel) (pa_cons (pv 0) (pa_cons (pe_glob (v := .ref (C 7)) (by rfl) T.g7 rfl) pa_nil))) pa_nil))))) pa_nil)))
      (pss_cons (ps_expr (pe_bm PySem.F.plainAttrs_list PySem.F.slot_list_extend PySem.F.type_list_extend mt_extend (pv 1) (pa_cons (pe_lst (pa_cons (pe_callB (id := "isinstance") (r := rIsV K) call_isV (by rfl) L.isi (by decide +kernel) (pa_cons (pv 0) (pa_cons (pe_glob (v := .ref (C 8)) (by rfl) T.g8 rfl) pa_nil))) (pa_cons (pe_callB (id := "isinstance") (r := rIsV K) call_isV (by rfl) L.isi (by decide +kernel) (pa_cons (pv 0) (pa_cons (pe_glob (v := .ref (C 9)) (by rfl) T.g9 rfl) pa_nil))) (pa_cons (pe_callB (id := "isinstance") (r := rIsV K) call_isV (by rfl) L.isi (by decide +kernel) (pa_cons (pv 0) (pa_cons (pe_glob (v := .ref (C 10)) (by rfl) T.g10 rfl) pa_nil))) (pa_cons (pe_callB (id := "isinstance") (r := rIsV K) call_isV (by rfl) L.isi (by decide +kernel) (pa_cons (pv 0) (pa_cons (pe_glob (v := .ref (C 11)) (by rfl) T.g11 rfl) pa_nil))) pa_nil))))) pa_nil)))
      (pss_cons (ps_expr (pe_bm PySem.F.plainAttrs_list PySem.F.slot_list_extend PySem.F.type_list_extend mt_extend (pv 1) (pa_cons (pe_lst (pa_cons (pe_callB (id := "isinstance") (r := rIsV K) call_isV (by rfl) L.isi (by decide +kernel) (pa_cons (pv 0) (pa_cons (pe_glob (v := .ref (C 12)) (by rfl) T.g12 rfl) pa_nil))) (pa_cons (pe_callB (id := "isinstance") (r := rIsV K) call_isV (by rfl) L.isi (by decide +kernel) (pa_cons (pv 0) (pa_cons (pe_glob (v := .ref (C 13)) (by rfl) T.g13 rfl) pa_nil))) (pa_cons (pe_callB (id := "isinstance") (r := rIsV K) call_isV (by rfl) L.isi (by decide +kernel) (pa_cons (pv 0) (pa_cons (pe_glob (v := .ref (C 14)) (by rfl) T.g14 rfl) pa_nil))) pa_nil)))) pa_nil)))
      (pss_cons (ps_expr (pe_bm PySem.F.plainAttrs_list PySem.F.slot_list_extend PySem.F.type_list_extend mt_extend (pv 1) (pa_cons (pe_lst (pa_cons (pe_callB (id := "isinstance") (r := rIsV K) call_isV (by rfl) L.isi (by decide +kernel) (pa_cons (pv 0) (pa_cons (pe_glob (v := .ref (C 15)) (by rfl) T.g15 rfl) pa_nil))) (pa_cons (pe_callB (id := "isinstance") (r := rIsV K) call_isV (by rfl) L.isi (by decide +kernel) (pa_cons (pv 0) (pa_cons (pe_glob (v := .ref (C 16)) (by rfl) T.g16 rfl) pa_nil))) (pa_cons (pe_callB (id := "isinstance") (r := rIsV K) call_isV (by rfl) L.isi (by decide +kernel) (pa_cons (pv 0) (pa_cons (pe_glob (v := .ref (C 17)) (by rfl) T.g17 rfl) pa_nil))) pa_nil)))) pa_nil)))
      (pss_one (ps_ret (pe_op op_cat (pv 1) (pe_lst (pa_cons (pe_callB (id := "isinstance") (r := rIsV K) call_isV (by rfl) L.isi (by decide +kernel) (pa_cons (pv 0) (pa_cons (pe_glob (v := .ref (C 18)) (by rfl) T.g18 rfl) pa_nil))) (pa_cons (pe_callB (id := "isinstance") (r := rIsV K) call_isV (by rfl) L.isi (by decide +kernel) (pa_cons (pv 0) (pa_cons (pe_glob (v := .ref (C 19)) (by rfl) T.g19 rfl) pa_nil))) pa_nil))))))))))), ?_⟩
    have one : ∀ {σ9 : L2.St} {H9 : Hp} (j : Nat), j < 20 → Ex H H9 → σ9[0]? = some (some (.ref a)) → Ev (tCB (rIsV K) (tCons (tVar 0) (tCons (tC (.ref (C j))) tNil))) σ9 H9 (.bl (decide (i = j))) := fun j hj e9 s0 => ev_cb (ea_cons (ev_var s0) (ea_cons ev_c ea_nil)) (rc_isV (isErr_ex e9 he) (T.ex i hi) (fun u r => r) (T.kk i j hi hj))
    refine q_asgL (xs := bls i [0, 1, 2, 3]) (el_lst (ea_cons (one 0 (by decide) (Ex.refl H) rfl) (ea_cons (one 1 (by decide) (Ex.refl H) rfl) (ea_cons (one 2 (by decide) (Ex.refl H) rfl) (ea_cons (one 3 (by decide) (Ex.refl H) rfl) ea_nil)))) (by show 4 ≤ 100000; decide)) (fun l H1 hl e1 h1 => ?_)
    have x1 : Ex H H1 := e1
    refine q_extL (xs := bls i [0, 1, 2, 3]) (ys := bls i [4, 5, 6, 7]) (h1) (ev_var rfl) (el_lst (ea_cons (one 4 (by decide) x1 rfl) (ea_cons (one 5 (by decide) x1 rfl) (ea_cons (one 6 (by decide) x1 rfl) (ea_cons (one 7 (by decide) x1 rfl) ea_nil)))) (by show 4 ≤ 100000; decide)) (by show 4 + 4 ≤ sizeLine; decide) (fun G2 e2 => ?_)
    have x2 := Ex.mut (p := l) (o := .lst (bls i [0, 1, 2, 3, 4, 5, 6, 7])) (x1.trans e2) hl
    refine q_extL (xs := bls i [0, 1, 2, 3, 4, 5, 6, 7]) (ys := bls i [8, 9, 10, 11]) upd_same (ev_var rfl) (el_lst (ea_cons (one 8 (by decide) x2 rfl) (ea_cons (one 9 (by decide) x2 rfl) (ea_cons (one 10 (by decide) x2 rfl) (ea_cons (one 11 (by decide) x2 rfl) ea_nil)))) (by show 4 ≤ 100000; decide)) (by show 8 + 4 ≤ sizeLine; decide) (fun G3 e3 => ?_)
    have x3 := Ex.mut (p := l) (o := .lst (bls i [0, 1, 2, 3, 4, 5, 6, 7, 8, 9, 10, 11])) (x2.trans e3) hl
    refine q_extL (xs := bls i [0, 1, 2, 3, 4, 5, 6, 7, 8, 9, 10, 11]) (ys := bls i [12, 13, 14]) upd_same (ev_var rfl) (el_lst (ea_cons (one 12 (by decide) x3 rfl) (ea_cons (one 13 (by decide) x3 rfl) (ea_cons (one 14 (by decide) x3 rfl) ea_nil))) (by show 3 ≤ 100000; decide)) (by show 12 + 3 ≤ sizeLine; decide) (fun G4 e4 => ?_)
    have x4 := Ex.mut (p := l) (o := .lst (bls i [0, 1, 2, 3, 4, 5, 6, 7, 8, 9, 10, 11, 12, 13, 14])) (x3.trans e4) hl
    refine q_extL (xs := bls i [0, 1, 2, 3, 4, 5, 6, 7, 8, 9, 10, 11, 12, 13, 14]) (ys := bls i [15, 16, 17]) upd_same (ev_var rfl) (el_lst (ea_cons (one 15 (by decide) x4 rfl) (ea_cons (one 16 (by decide) x4 rfl) (ea_cons (one 17 (by decide) x4 rfl) ea_nil))) (by show 3 ≤ 100000; decide)) (by show 15 + 3 ≤ sizeLine; decide) (fun G5 e5 => ?_)
    have x5 := Ex.mut (p := l) (o := .lst (bls i [0, 1, 2, 3, 4, 5, 6, 7, 8, 9, 10, 11, 12, 13, 14, 15, 16, 17])) (x4.trans e5) hl
    exact s_retL (xs := bls i (List.range 20)) (el_catL (xs := bls i [0, 1, 2, 3, 4, 5, 6, 7, 8, 9, 10, 11, 12, 13, 14, 15, 16, 17]) (ys := bls i [18, 19]) (ev_var rfl) upd_same (el_lst (ea_cons (one 18 (by decide) x5 rfl) (ea_cons (one 19 (by decide) x5 rfl) ea_nil)) (by show 2 ≤ 100000; decide)) (by show 18 + 2 ≤ sizeLine; decide)) (fun p H9 hp e9 h9 => q p H9 (fresh_back x5 hp) (x5.trans e9) h9)
end
end Fs

set_option Elab.async false
set_option linter.all false
set_option maxRecDepth 100000
set_option maxHeartbeats 4000000
namespace Fs
open PySem L2 Evl FsE FsC FsV
/-- a made error: its place among the classes, its field -/
def ErrR (C : Nat → Addr) (H : Hp) (u : V) (x : Nat × Option (Str × V)) : Prop := match x.2 with
  | none => ∃ a, u = .ref a ∧ H a = some (ExO (.ref (C x.1)) a)
  | some p => ∃ a d, u = .ref a ∧ H a = some (exo a (C x.1) (some d)) ∧ H d = some (exd d [p])
theorem errR_ex {C : Nat → Addr} {H H' : Hp} {u : V} {x : Nat × Option (Str × V)} (e : Ex H H') (h : ErrR C H u x) : ErrR C H' u x := by
  obtain ⟨i, o⟩ := x
  cases o with
  | none =>
    obtain ⟨a, hu, ha⟩ := h
    exact ⟨a, hu, e _ _ ha⟩
  | some p =>
    obtain ⟨a, d, hu, ha, hd⟩ := h
    exact ⟨a, d, hu, e _ _ ha, e _ _ hd⟩
theorem ext_lst {φ : Heap → Prop} {xs : List V} : HO.ext φ ≠ .lst xs := fun z => by cases z
theorem upd_ext {H : Hp} {a l : Addr} {φ : Heap → Prop} {o : HO} {xs : List V} (ha : H a = some (.ext φ)) (hl : H l = some (.lst xs)) : upd H l o a = some (.ext φ) := by
  rw [upd_ne (fun z => by rw [z, hl] at ha; exact ext_lst (Option.some.inj ha).symm)]
  exact ha
theorem errR_upd {C : Nat → Addr} {H : Hp} {u : V} {x : Nat × Option (Str × V)} {l : Addr} {xs : List V} {o : HO} (hl : H l = some (.lst xs)) (h : ErrR C H u x) : ErrR C (upd H l o) u x := by
  obtain ⟨i, p⟩ := x
  cases p with
  | none =>
    obtain ⟨a, hu, ha⟩ := h
    exact ⟨a, hu, upd_ext ha hl⟩
  | some p =>
    obtain ⟨a, d, hu, ha, hd⟩ := h
    exact ⟨a, d, hu, upd_ext ha hl, upd_ext hd hl⟩
theorem errR_is {C : Nat → Addr} {H : Hp} {u : V} {x : Nat × Option (Str × V)} (h : ErrR C H u x) : ∃ a, u = .ref a ∧ IsErr H a (C x.1) := by
  obtain ⟨i, p⟩ := x
  cases p with
  | none =>
    obtain ⟨a, hu, ha⟩ := h
    exact ⟨a, hu, .inl ha⟩
  | some p =>
    obtain ⟨a, d, hu, ha, hd⟩ := h
    exact ⟨a, hu, .inr ⟨d, _, ha, hd⟩⟩
/-- item by item -/
def LsE (C : Nat → Addr) (H : Hp) : List V → List (Nat × Option (Str × V)) → Prop
  | [], [] => True
  | v :: vs, x :: xs => ErrR C H v x ∧ LsE C H vs xs
  | _, _ => False
theorem LsE.imp {C : Nat → Addr} {H H' : Hp} (e : ∀ v x, ErrR C H v x → ErrR C H' v x) : ∀ {vs : List V} {xs : List (Nat × Option (Str × V))}, LsE C H vs xs → LsE C H' vs xs
  | [], [], _ => True.intro
  | _ :: _, _ :: _, h => ⟨e _ _ h.1, LsE.imp e h.2⟩
  | [], _ :: _, h => h.elim
  | _ :: _, [], h => h.elim
theorem LsE.append {C : Nat → Addr} {H : Hp} : ∀ {vs ws : List V} {xs ys : List (Nat × Option (Str × V))}, LsE C H vs xs → LsE C H ws ys → LsE C H (vs ++ ws) (xs ++ ys)
  | [], _, [], _, _, g => g
  | _ :: _, _, _ :: _, _, h, g => ⟨h.1, LsE.append h.2 g⟩
  | [], _, _ :: _, _, h, _ => h.elim
  | _ :: _, _, [], _, h, _ => h.elim
theorem LsE.length {C : Nat → Addr} {H : Hp} : ∀ {vs : List V} {xs : List (Nat × Option (Str × V))}, LsE C H vs xs → vs.length = xs.length
  | [], [], _ => rfl
  | _ :: _, _ :: _, h => congrArg (· + 1) (LsE.length h.2)
  | [], _ :: _, h => h.elim
  | _ :: _, [], h => h.elim
theorem LsE.at_ {C : Nat → Addr} {H : Hp} : ∀ {vs : List V} {xs : List (Nat × Option (Str × V))} {i : Nat} {x : Nat × Option (Str × V)}, LsE C H vs xs → xs[i]? = some x → ∃ v, vs[i]? = some v ∧ ErrR C H v x
  | v :: _, _ :: _, 0, x, h, e => ⟨v, rfl, by cases e; exact h.1⟩
  | _ :: _, _ :: _, i + 1, x, h, e => LsE.at_ (i := i) h.2 e
  | _, [], _, _, _, e => by simp at e
  | [], _ :: _, _, _, h, _ => h.elim
/-- arguments that make errors -/
def EsA (C : Nat → Addr) (ts : TA) (σ : L2.St) (H : Hp) (xs : List (Nat × Option (Str × V))) : Prop := ∀ H1, Ex H H1 → ∀ Q : List V → Hp → Prop, (∀ vs H2, Ex H1 H2 → LsE C H2 vs xs → Q vs H2) → ts σ H1 Q
section
variable {C : Nat → Addr} {σ : L2.St} {H : Hp} {te ta : TE} {ts : TA} {D : Ends} {tz : TS} {K : PySem.W.Frag}
theorem esa_nil : EsA C tNil σ H [] := fun H1 _ Q q => q [] H1 (Ex.refl H1) True.intro
theorem esa_cons {x : Nat × Option (Str × V)} {xs : List (Nat × Option (Str × V))} (h : EvS te σ H (fun u H' => ErrR C H' u x)) (g : EsA C ts σ H xs) : EsA C (tCons te ts) σ H (x :: xs) := fun H1 e1 Q q =>
  h H1 e1 _ fun v H2 e2 hv => g H2 (e1.trans e2) _ fun vs H3 e3 hvs => q (v :: vs) H3 (e2.trans e3) ⟨errR_ex e3 hv, hvs⟩
theorem es_new {i : Nat} {f : Str} {v : V} {tn : TE} (hn : tn = fun σ H Q => te σ H fun v H1 => ∀ a d, H1 a = none → H1 d = none → d ≠ a → Q (.ref a) (upd (upd H1 a (exo a (C i) (some d))) d (exd d [(f, v)]))) (h : Ev te σ H v) : EvS tn σ H (fun u H' => ErrR C H' u (i, some (f, v))) := by
  subst hn
  intro H1 e1 Q q
  refine h H1 e1 _ fun H2 e2 a d na nd ne => ?_
  have nd' : upd H2 a (exo a (C i) (some d)) d = none := by rw [upd_ne ne]; exact nd
  refine q _ _ (e2.trans ((Ex.new na).trans (Ex.new nd'))) ⟨a, d, rfl, ?_, upd_same⟩
  exact (Ex.new nd') _ _ upd_same
theorem es_new0 {i : Nat} : EvS (fun _ H Q => ∀ a, H a = none → Q (.ref a) (upd H a (ExO (.ref (C i)) a))) σ H (fun u H' => ErrR C H' u (i, none)) := fun H1 e1 Q q a na => q _ _ (Ex.new na) ⟨a, rfl, upd_same⟩
/-- the list of the made ones, over what stood at B -/
structure MadeAt (C : Nat → Addr) (B H : Hp) (l : Addr) (xs : List (Nat × Option (Str × V))) : Prop where
  ex : Ex B H
  new : B l = none
  at_ : ∃ us, H l = some (.lst us) ∧ LsE C H us xs
theorem MadeAt.more {B H H' : Hp} {l : Addr} {xs : List (Nat × Option (Str × V))} (m : MadeAt C B H l xs) (e : Ex H H') : MadeAt C B H' l xs := by
  obtain ⟨us, h1, h2⟩ := m.at_
  exact ⟨m.ex.trans e, m.new, us, e _ _ h1, LsE.imp (fun _ _ => errR_ex e) h2⟩
theorem q_made {i : Nat} {xs : List (Nat × Option (Str × V))} (h : EsA C ts σ H xs) (hz : xs.length ≤ 1000) (k : ∀ l H1, MadeAt C H H1 l xs → tz D (σ.set i (some (.ref l))) H1) : tSeq (tAsg (tLst ts) (gName i)) tz D σ H :=
  h H (Ex.refl H) _ fun vs H1 e1 hv => ⟨by rw [hv.length, sizeLine_eq]; omega, fun l hl => k l _ ⟨e1.trans (Ex.new hl), fresh_back e1 hl, vs, upd_same, LsE.imp (fun _ _ => errR_ex (Ex.new hl)) hv⟩⟩
theorem q_more {B : Hp} {l : Addr} {xs ys : List (Nat × Option (Str × V))} (m : MadeAt C B H l xs) (ha : Ev ta σ H (.ref l)) (h : EsA C ts σ H ys) (hz : xs.length + ys.length ≤ 1000) (k : ∀ H1, MadeAt C B H1 l (xs ++ ys) → tz D σ H1) :
    tSeq (tDrop (tBM K "list" rExtend ta (tCons (tLst ts) tNil))) tz D σ H := ha H (Ex.refl H) _ fun H1 e1 => by
  obtain ⟨us, h1, h2⟩ := m.at_
  refine ⟨Or.inl ⟨rfl, us, sq_of (e1 l _ h1)⟩, h H1 e1 _ fun vs H2 e2 hv => ⟨by rw [hv.length, sizeLine_eq]; omega, fun p hp => ?_⟩⟩
  have l2 : H2 l = some (.lst us) := (e1.trans e2) _ _ h1
  have x3 : Ex H (upd H2 p (.lst vs)) := (e1.trans e2).trans (Ex.new hp)
  have l3 : upd H2 p (.lst vs) l = some (.lst us) := (Ex.new hp) _ _ l2
  have hul := h2.length
  have hvl := hv.length
  refine ⟨l, p, us, vs, rfl, rfl, l3, upd_same, by rw [sizeLine_eq]; omega, k _ ⟨Ex.mut (m.ex.trans x3) m.new, m.new, us ++ vs, upd_same, ?_⟩⟩
  exact LsE.append (LsE.imp (fun _ _ z => errR_upd l3 (errR_ex x3 z)) h2) (LsE.imp (fun _ _ z => errR_upd l3 (errR_ex (Ex.new hp) z)) hv)
theorem ev_errF {a Ca d : Addr} {fs : List (Str × V)} {f : Str} {v : V} (h : Ev te σ H (.ref a)) (ea : H a = some (exo a Ca (some d))) (ed : H d = some (exd d fs)) (x : XfC K Ca) (no : PySem.W.findIn K (.ref Ca) f = some none) (l : fs.lookup f = some v) : Ev (tErrF K f te) σ H v := fun H1 e1 Q q =>
  h H1 e1 _ fun H2 e2 => ⟨a, Ca, d, fs, v, rfl, (e1.trans e2) _ _ ea, (e1.trans e2) _ _ ed, x, no, l, q H2 e2⟩
end
theorem look_one {f : Str} {v : V} : List.lookup f [(f, v)] = some v := by simp [List.lookup]
end Fs

set_option Elab.async false
set_option linter.all false
set_option maxRecDepth 100000
set_option maxHeartbeats 8000000
namespace Fs
open PySem L2 Evl FsE FsC FsV
abbrev mVE : List Value := [.type "ValueError", .type "Exception", .type "BaseException", .type "object"]
/-- what the classes say of their making -/
structure MakT (P : Program) (K : PySem.W.Frag) (mg : Str → Option Value) (C : Nat → Addr) : Prop where
  t0 : ∃ f, FsBfield.ErrTxt P K mg "BadTerm" (C 0) f
  t1 : ∃ f, FsBline.ErrTxt P K mg "BadText" (C 1) f
  t2 : ∃ f, FsBname.ErrTxt P K mg "NoName" (C 2) f
  t3 : ∃ f, FsBname.ErrTxt P K mg "WrongCount" (C 3) f
  t4 : ∃ f, FsBname.ErrTxt P K mg "Endless" (C 4) f
  t5 : ∃ f, FsBname.ErrTxt P K mg "Clash" (C 5) f
  t6 : ∃ f, FsBmachine.ErrTxt P K mg "NoMachine" (C 6) f
  t7 : ∃ f, FsBchannel.ErrTxt P K mg "NoSeating" (C 7) f
  t8 : ∃ f, FsBplace.ErrTxt P K mg "NoMeeting" (C 8) f
  t9 : ∃ f, FsBplace.ErrTxt P K mg "Dependent" (C 9) f
  t10 : ∃ f, FsBplace.ErrTxt P K mg "NoRun" (C 10) f
  n11 : PySem.W.excIn K (C 11) mVE "ValueError.__new__" = true ∧ PySem.W.keepIn K (.ref (C 11)) = true
  t12 : ∃ f, FsBtext.ErrTxt P K mg "BadMessage" (C 12) f
  t13 : ∃ f, FsBplace.ErrTxt P K mg "NoMessage" (C 13) f
  t14 : ∃ f, FsBlimit.ErrTxt P K mg "NetworkFull" (C 14) f
  t15 : ∃ f, FsBvalue.ErrTxt P K mg "BadSetting" (C 15) f
  n16 : PySem.W.excIn K (C 16) mVE "ValueError.__new__" = true ∧ PySem.W.keepIn K (.ref (C 16)) = true
  t17 : ∃ f, FsBplace.ErrTxt P K mg "NotDone" (C 17) f
  n18 : PySem.W.excIn K (C 18) mVE "ValueError.__new__" = true ∧ PySem.W.keepIn K (.ref (C 18)) = true
  n19 : PySem.W.excIn K (C 19) mVE "ValueError.__new__" = true ∧ PySem.W.keepIn K (.ref (C 19)) = true
def num (row : List Int) (i : Nat) : Int := row.getD (12 + i) 0 - 400
def nums (row : List Int) : List V := [.int (num row 0), .int (num row 1), .int (num row 2), .int (num row 3), .int (num row 4), .int (num row 5), .int (num row 6), .int (num row 7), .int (num row 8), .int (num row 9)]
def spLaw (K : PySem.W.Frag) : Sp := fun vs H Q _ => ∃ (a : Addr) (ns : List Int), vs = [.ref a] ∧ SqL K H a (ns.map V.int) ∧ RetV (.bl true) H Q
theorem xfc {K : PySem.W.Frag} {D : Addr} (h : ExcC K D) : XfC K D := ⟨h.hg, h.hk, h.hs, h.hd⟩
theorem given_one {k : Nat} (h : k < 20) : given 20 (fun j => decide (k = j)) (fun j => V.int (j : Int)) = [.int (k : Int)] := by
  have : k = 0 ∨ k = 1 ∨ k = 2 ∨ k = 3 ∨ k = 4 ∨ k = 5 ∨ k = 6 ∨ k = 7 ∨ k = 8 ∨ k = 9 ∨ k = 10 ∨ k = 11 ∨ k = 12 ∨ k = 13 ∨ k = 14 ∨ k = 15 ∨ k = 16 ∨ k = 17 ∨ k = 18 ∨ k = 19 := by omega
  rcases this with rfl | rfl | rfl | rfl | rfl | rfl | rfl | rfl | rfl | rfl | rfl | rfl | rfl | rfl | rfl | rfl | rfl | rfl | rfl | rfl
  all_goals rfl
theorem rv_neD {K : PySem.W.Frag} {H : Hp} {x y : V} {d : PyData} (hx : ∀ H1, Ex H H1 → Dp K H1 x d) (hy : ∀ H1, Ex H H1 → Dp K H1 y d) (hs : SeqAt.shaped d = true) : RV (rNeD K) x y H (.bl false) := fun H1 e Q q => ⟨d, d, hx H1 e, hy H1 e, hs, hs, by rw [SeqAt.eqv_refl d (SeqAt.canLay_of_shaped hs)]; exact q H1 (Ex.refl H1)⟩
theorem rv_eqD {K : PySem.W.Frag} {H : Hp} {x y : V} {d : PyData} (hx : ∀ H1, Ex H H1 → Dp K H1 x d) (hy : ∀ H1, Ex H H1 → Dp K H1 y d) (hs : SeqAt.shaped d = true) : RV (rEqD K) x y H (.bl true) := fun H1 e Q q => ⟨d, d, hx H1 e, hy H1 e, hs, hs, by rw [SeqAt.eqv_refl d (SeqAt.canLay_of_shaped hs)]; exact q H1 (Ex.refl H1)⟩
theorem paired_same {K : PySem.W.Frag} {H : Hp} : ∀ xs : List V, (∀ v ∈ xs, flatB v = true) → Paired (EqV K H 1) xs xs
  | [], _ => .nil
  | v :: xs, h => .cons (.inl ⟨rfl, h v (List.mem_cons_self ..)⟩) (paired_same xs fun u hu => h u (List.mem_cons_of_mem _ hu))
theorem rv_eqV {K : PySem.W.Frag} {H : Hp} {a b : Addr} {xs : List V} (ha : H a = some (.lst xs)) (hb : H b = some (.lst xs)) (hf : ∀ v ∈ xs, flatB v = true) : RV (rEqV K) (.ref a) (.ref b) H (.bl true) := fun H1 e Q q => ⟨1, by decide, .inl ⟨a, b, xs, xs, rfl, rfl, sq_of (e _ _ ha), sq_of (e _ _ hb), paired_same xs hf⟩, q H1 (Ex.refl H1)⟩
theorem flat_strs : ∀ ws : List Str, ∀ v ∈ ws.map V.str, flatB v = true := fun ws v hv => by
  obtain ⟨z, _, rfl⟩ := List.mem_map.mp hv
  rfl
theorem flat_ints : ∀ ns : List Int, ∀ v ∈ ns.map V.int, flatB v = true := fun ns v hv => by
  obtain ⟨z, _, rfl⟩ := List.mem_map.mp hv
  rfl
theorem sh_3 (i j k : Int) : SeqAt.shaped (.tuple [.int i, .int j, .int k]) = true := by
  simp [SeqAt.shaped, PyData.canLay0, PyData.canLayAll0, PyData.depth, PyData.depthAll]
theorem sh_1 (i : Int) : SeqAt.shaped (.list [.int i]) = true := by
  simp [SeqAt.shaped, PyData.canLay0, PyData.canLayAll0, PyData.depth, PyData.depthAll]
section
variable {P : Program} {w : World} {K : PySem.W.Frag} {mg : Str → Option Value} {base : Heap} {C : Nat → Addr} {S : Addr}
abbrev nsLaw : List Str := ["_law_script", "_law_row_here", "_law_words_here", "_law_k", "_law_numbers", "_law_channel", "_law_made", "_law_told", "_law_counts", "_law_j"]
theorem scLawT : FnScope nsLaw ["_law_script"] (defScope (topS 28)) := ⟨rfl, rfl, rfl, by decide +kernel, rfl, by decide +kernel, by decide +kernel⟩
def descs (row : List Int) (w0 w1 w2 w3 w4 w5 : Str) (tc : Addr) : List (Nat × Option (Str × V)) := [(0, some ("field", .str w0)), (1, some ("line", .int (num row 0))), (2, some ("name", .str w1)), (3, some ("name", .str w2)), (4, some ("name", .str w3)), (5, some ("name", .str w4)), (6, some ("machine", .int (num row 1))), (7, some ("channel", .ref tc)), (8, some ("place", .int (num row 2))), (9, some ("place", .int (num row 3))), (10, some ("place", .int (num row 4))), (11, none), (12, some ("text", .str w5)), (13, some ("place", .int (num row 5))), (14, some ("limit", .int (num row 6))), (15, some ("value", .int (num row 7))), (16, none), (17, some ("place", .int (num row 8))), (18, none), (19, none)]
theorem desc_at {row : List Int} {w0 w1 w2 w3 w4 w5 : Str} {tc : Addr} {k : Nat} (h : k < 20) : ∃ o, (descs row w0 w1 w2 w3 w4 w5 tc)[k]? = some (k, o) := by
  have : k = 0 ∨ k = 1 ∨ k = 2 ∨ k = 3 ∨ k = 4 ∨ k = 5 ∨ k = 6 ∨ k = 7 ∨ k = 8 ∨ k = 9 ∨ k = 10 ∨ k = 11 ∨ k = 12 ∨ k = 13 ∨ k = 14 ∨ k = 15 ∨ k = 16 ∨ k = 17 ∨ k = 18 ∨ k = 19 := by omega
  rcases this with rfl | rfl | rfl | rfl | rfl | rfl | rfl | rfl | rfl | rfl | rfl | rfl | rfl | rfl | rfl | rfl | rfl | rfl | rfl | rfl
  all_goals exact ⟨_, rfl⟩
theorem ok_law {f : Addr} {fd : FuncData} (F : Fun K "law" "law" (topS 28) f fd) (L : LawT K mg) (T : KindT K mg C S) (M : MakT P K mg C) (GC : CalX P w K mg base CX0 1 "_law_cell_at" (spCellAt K)) (GR : CalX P w K mg base CX0 2 "_law_row" spRow) (GW : CalX P w K mg base CX0 1 "_law_words" spWords) (GK : CalX P w K mg base CX0 1 "_law_kinds" (spKinds C)) : FnOk P w K mg base CX0 3 f fd ["_law_script"] (spLaw K) := by
  refine F.ok scLawT (fun vs H Q E h => ?_) (fun cdv A outer s H vs Q E hr h => ?_)
  · obtain ⟨a, ns, rfl, _⟩ := h
    rfl
  · obtain ⟨a, ns, rfl, hS, q⟩ := h
    obtain ⟨f0, T0⟩ := M.t0
    obtain ⟨f1, T1⟩ := M.t1
    obtain ⟨f2, T2⟩ := M.t2
    obtain ⟨f3, T3⟩ := M.t3
    obtain ⟨f4, T4⟩ := M.t4
    obtain ⟨f5, T5⟩ := M.t5
    obtain ⟨f6, T6⟩ := M.t6
    obtain ⟨f7, T7⟩ := M.t7
    obtain ⟨f8, T8⟩ := M.t8
    obtain ⟨f9, T9⟩ := M.t9
    obtain ⟨f10, T10⟩ := M.t10
    have n11 := M.n11
    obtain ⟨f12, T12⟩ := M.t12
    obtain ⟨f13, T13⟩ := M.t13
    obtain ⟨f14, T14⟩ := M.t14
    obtain ⟨f15, T15⟩ := M.t15
    have n16 := M.n16
    obtain ⟨f17, T17⟩ := M.t17
    have n18 := M.n18
    have n19 := M.n19
    refine ⟨_, pss_cons (ps_set (i := 1) scLawT.nd rfl (Or.inr rfl) (pe_cx (E := fun _ => E0) GR hr (by omega) (by rfl) at0 (pa_cons (pe_cx (E := fun _ => E0) GC hr (by omega) (by rfl) at0 (pa_cons (pv 0) (pa_cons pe_int pa_nil))) (pa_cons pe_int pa_nil))))
      (pss_cons (ps_set (i := 2) scLawT.nd rfl (Or.inl rfl) (pe_cx (E := fun _ => E0) GW hr (by omega) (by rfl) at0 (pa_cons (pv 1) pa_nil)))
      (pss_cons (ps_setLc (i := 4) (own := [("_law_k", 3)]) (g := gName 3) (tt := tYes) (te := tOp (rI0 fun i j => .int (i - j)) (tOp (rIxL K) (tVar 1) (tOp rAdd (tC (.int 12)) (tVar 3))) (tC (.int 400))) rfl scLawT.nd rfl rfl (sw_true rfl rfl rfl (by decide +kernel))
          (pi_range1 rfl L.range (pa_cons pe_int pa_nil)) (blkOk_by (own := [("_law_k", 3)]) (N := nsLaw) (sc := defScope (topS 28)) (by decide +kernel))
          (fun _ _ _ _ _ => pg_name (i := 3) scLawT.nd rfl (Or.inl rfl)) (fun _ _ _ _ _ => pts_nil)
          (fun _ _ _ _ _ => pe_op op_sub (pe_ix ix_list (pv 1) (pe_op op_add pe_int (pv 3)) (fun _ _ => rfl)) pe_int))
      (pss_cons (ps_set (i := 5) scLawT.nd rfl (Or.inl rfl) (pe_tup (pa_cons (pe_ix ix_list (pv 4) pe_int (fun _ _ => rfl)) (pa_cons (pe_ix ix_list (pv 4) pe_int (fun _ _ => rfl)) (pa_cons pe_int pa_nil)))))
      (pss_cons (ps_set (i := 6) scLawT.nd rfl (Or.inr rfl) (pe_lst (pa_cons (FsBfield.pe_new T0 (hr.mono (by omega)) (pe_ix ix_list (pv 2) pe_int (fun _ _ => rfl)) (by rfl)) (pa_cons (FsBline.pe_new T1 (hr.mono (by omega)) (pe_ix ix_list (pv 4) pe_int (fun _ _ => rfl)) (by rfl)) (pa_cons (FsBname.pe_new T2 (hr.mono (by omega)) (pe_ix ix_list (pv 2) pe_int (fun _ _ => rfl)) (by rfl)) (pa_cons (FsBname.pe_new T3 (hr.mono (by omega)) (pe_ix ix_list (pv 2) pe_int (fun _ _ => rfl)) (by rfl)) (pa_cons (FsBname.pe_new T4 (hr.mono (by omega)) (pe_ix ix_list (pv 2) pe_int (fun _ _ => rfl)) (by rfl)) pa_nil)))))))
      (pss_cons (ps_expr (pe_bm PySem.F.plainAttrs_list PySem.F.slot_list_extend PySem.F.type_list_extend mt_extend (pv 6) (pa_cons (pe_lst (pa_cons (FsBname.pe_new T5 (hr.mono (by omega)) (pe_ix ix_list (pv 2) pe_int (fun _ _ => rfl)) (by rfl)) (pa_cons (FsBmachine.pe_new T6 (hr.mono (by omega)) (pe_ix ix_list (pv 4) pe_int (fun _ _ => rfl)) (by rfl)) (pa_cons (FsBchannel.pe_new T7 (hr.mono (by omega)) (pv 5) (by rfl)) (pa_cons (FsBplace.pe_new T8 (hr.mono (by omega)) (pe_ix ix_list (pv 4) pe_int (fun _ _ => rfl)) (by rfl)) pa_nil))))) pa_nil)))
      (pss_cons (ps_expr (pe_bm PySem.F.plainAttrs_list PySem.F.slot_list_extend PySem.F.type_list_extend mt_extend (pv 6) (pa_cons (pe_lst (pa_cons (FsBplace.pe_new T9 (hr.mono (by omega)) (pe_ix ix_list (pv 4) pe_int (fun _ _ => rfl)) (by rfl)) (pa_cons (FsBplace.pe_new T10 (hr.mono (by omega)) (pe_ix ix_list (pv 4) pe_int (fun _ _ => rfl)) (by rfl)) (pa_cons (pe_err0 PySem.F.excBase_ValueError n11.1 T.g11 n11.2 (by rfl)) (pa_cons (FsBtext.pe_new T12 (hr.mono (by omega)) (pe_ix ix_list (pv 2) pe_int (fun _ _ => rfl)) (by rfl)) (pa_cons (FsBplace.pe_new T13 (hr.mono (by omega)) (pe_ix ix_list (pv 4) pe_int (fun _ _ => rfl)) (by rfl)) pa_nil)))))) pa_nil)))
      (pss_cons (ps_expr (pe_bm PySem.F.plainAttrs_list PySem.F.slot_list_extend PySem.F.type_list_extend mt_extend (pv 6) (pa_cons (pe_lst (pa_cons (FsBlimit.pe_new T14 (hr.mono (by omega)) (pe_ix ix_list (pv 4) pe_int (fun _ _ => rfl)) (by rfl)) (pa_cons (FsBvalue.pe_new T15 (hr.mono (by omega)) (pe_ix ix_list (pv 4) pe_int (fun _ _ => rfl)) (by rfl)) (pa_cons (pe_err0 PySem.F.excBase_ValueError n16.1 T.g16 n16.2 (by rfl)) (pa_cons (FsBplace.pe_new T17 (hr.mono (by omega)) (pe_ix ix_list (pv 4) pe_int (fun _ _ => rfl)) (by rfl)) pa_nil))))) pa_nil)))
      (pss_cons (ps_expr (pe_bm PySem.F.plainAttrs_list PySem.F.slot_list_extend PySem.F.type_list_extend mt_extend (pv 6) (pa_cons (pe_lst (pa_cons (pe_err0 PySem.F.excBase_ValueError n18.1 T.g18 n18.2 (by rfl)) (pa_cons (pe_err0 PySem.F.excBase_ValueError n19.1 T.g19 n19.2 (by rfl)) pa_nil))) pa_nil)))
      (pss_cons (ps_for PassesOwn.never rfl (pi_range1 rfl L.range (pa_cons pe_int pa_nil)) (pg_name (i := 3) scLawT.nd rfl (Or.inr rfl))
        (pss_cons (ps_if (PW.pt (pw_or (pt_not (pt_val (pe_callB (id := "isinstance") (r := rIsV K) call_isV (by rfl) L.isi (by decide +kernel) (pa_cons (pe_ix ix_list (pv 6) (pv 3) (fun _ _ => rfl)) (pa_cons (pe_glob (v := .ref S) (by rfl) T.gS rfl) pa_nil))))) (pw_or1 (pt_not (pt_val (pe_callB (id := "isinstance") (r := rIsV K) call_isV (by rfl) L.isi (by decide +kernel) (pa_cons (pe_ix ix_list (pv 6) (pv 3) (fun _ _ => rfl)) (pa_cons (pe_bltn (v := .ty "ValueError") (by rfl) L.ve (by decide +kernel) rfl) pa_nil)))))))) (pss_one (ps_ret pe_bl)) pss_nil)
        (pss_one (ps_if (pt_cmpR (op_neD hr.units) (pe_lc (own := [("_law_j", 9)]) (g := gName 9) (tt := L2.tB (tOp (rIxL K) (tCallS (spKinds C) (fun _ => E0) (tCons (tOp (rIxL K) (tVar 6) (tVar 3)) tNil)) (tVar 9))) (te := tVar 9) rfl scLawT.nd
            (pi_range1 rfl L.range (pa_cons pe_int pa_nil)) (blkOk_by (own := [("_law_j", 9)]) (N := nsLaw) (sc := defScope (topS 28)) (by decide +kernel))
            (fun _ _ _ _ _ => pg_name (i := 9) scLawT.nd rfl (Or.inl rfl)) (fun _ _ _ _ _ => pts_one (pt_val (pe_ix ix_list (pe_cx (E := fun _ => E0) GK hr (by omega) (by rfl) at0 (pa_cons (pe_ix ix_list (pv 6) (pv 3) (fun _ _ => rfl)) pa_nil)) (pv 9) (fun _ _ => rfl)))) (fun _ _ _ _ _ => pv 9))
          (pe_lst (pa_cons (pv 3) pa_nil)) (nomark _)) (pss_one (ps_ret pe_bl)) pss_nil))))
      (pss_cons (ps_set (i := 7) scLawT.nd rfl (Or.inl rfl) (pe_lst (pa_cons (pe_errF (n := "field") (pe_ix ix_list (pv 6) pe_int (fun _ _ => rfl))) (pa_cons (pe_errF (n := "name") (pe_ix ix_list (pv 6) pe_int (fun _ _ => rfl))) (pa_cons (pe_errF (n := "name") (pe_ix ix_list (pv 6) pe_int (fun _ _ => rfl))) (pa_cons (pe_errF (n := "name") (pe_ix ix_list (pv 6) pe_int (fun _ _ => rfl))) (pa_cons (pe_errF (n := "name") (pe_ix ix_list (pv 6) pe_int (fun _ _ => rfl))) (pa_cons (pe_errF (n := "text") (pe_ix ix_list (pv 6) pe_int (fun _ _ => rfl))) pa_nil))))))))
      (pss_cons (ps_set (i := 8) scLawT.nd rfl (Or.inl rfl) (pe_lst (pa_cons (pe_errF (n := "line") (pe_ix ix_list (pv 6) pe_int (fun _ _ => rfl))) (pa_cons (pe_errF (n := "machine") (pe_ix ix_list (pv 6) pe_int (fun _ _ => rfl))) (pa_cons (pe_errF (n := "place") (pe_ix ix_list (pv 6) pe_int (fun _ _ => rfl))) (pa_cons (pe_errF (n := "place") (pe_ix ix_list (pv 6) pe_int (fun _ _ => rfl))) (pa_cons (pe_errF (n := "place") (pe_ix ix_list (pv 6) pe_int (fun _ _ => rfl))) (pa_cons (pe_errF (n := "place") (pe_ix ix_list (pv 6) pe_int (fun _ _ => rfl))) pa_nil))))))))
      (pss_cons (ps_expr (pe_bm PySem.F.plainAttrs_list PySem.F.slot_list_extend PySem.F.type_list_extend mt_extend (pv 8) (pa_cons (pe_lst (pa_cons (pe_errF (n := "limit") (pe_ix ix_list (pv 6) pe_int (fun _ _ => rfl))) (pa_cons (pe_errF (n := "value") (pe_ix ix_list (pv 6) pe_int (fun _ _ => rfl))) (pa_cons (pe_errF (n := "place") (pe_ix ix_list (pv 6) pe_int (fun _ _ => rfl))) pa_nil)))) pa_nil)))
      (pss_one (ps_ret (pe_and (pe_cmpR (op_eqV hr.units) (pv 7) (pv 2) (nomark _)) (pe_and (pe_cmpR (op_eqV hr.units) (pv 8) (pe_slice sl_list (pv 4) po_none (po_some pe_int)) (nomark _)) (pe_one (pe_cmpR (op_eqD hr.units) (pe_errF (n := "channel") (pe_ix ix_list (pv 6) pe_int (fun _ _ => rfl))) (pv 5) (nomark _))))))))))))))))))), ?_⟩
    refine ⟨_, rfl, a, ns, 0, rfl, hS, fun c H1 e1 => ⟨c, 30, rfl, by decide, fun row hrow hok rl H2 hrl e2 h2 => ?_⟩⟩
    refine ⟨_, rfl, rl, row, rfl, h2, hrow, hok, fun ws hws wl H3 hwl e3 h3 => ?_⟩
    have x3 := (e1.trans e2).trans e3
    obtain ⟨w0, w1, w2, w3, w4, w5, rfl⟩ : ∃ w0 w1 w2 w3 w4 w5, ws = [w0, w1, w2, w3, w4, w5] := by
      match ws, hws with
      | [w0, w1, w2, w3, w4, w5], _ => exact ⟨w0, w1, w2, w3, w4, w5, rfl⟩
    have hrl3 : H3 rl = some (.lst (row.map V.int)) := e3 _ _ h2
    refine q_asgL (xs := nums row) (el_lcRm (n := 10) (fun i => V.int (num row i)) (ea_cons ev_c ea_nil) ⟨by decide, by decide⟩ (fun _ => rfl) (fun i H4 e4 hi => ?_)) (fun nl H4 hnl e4 h4 => ?_)
    · obtain ⟨v, gv, av, _, _⟩ := row_getN hrow hok (i := 12 + i) (by omega)
      have dv : row.getD (12 + i) 0 = v := by rw [List.getD_eq_getElem?_getD, gv]; rfl
      rw [show ((12 + i : Nat) : Int) = 12 + (i : Int) by omega] at av
      have ed : num row i = v - 400 := by unfold num; rw [dv]
      rw [ed]
      exact ev_op (ev_op (ev_var rfl) (ev_op ev_c (ev_var rfl) rv_I0) (rv_ixL (sq_of (e4 _ _ hrl3)) av)) ev_c rv_I0
    refine q_asgU (xs := [.int (num row 8), .int (num row 9), .int 2]) (eu_tup (ea_cons (ev_op (ev_var rfl) ev_c (rv_ixL (sq_of h4) rfl)) (ea_cons (ev_op (ev_var rfl) ev_c (rv_ixL (sq_of h4) rfl)) (ea_cons ev_c ea_nil))) (by show 3 ≤ 100000; decide)) (fun tc H5 htc e5 h5 => ?_)
    have hw5 : H5 wl = some (.lst ([w0, w1, w2, w3, w4, w5].map V.str)) := (e4.trans e5) _ _ h3
    have hn5 : H5 nl = some (.lst (nums row)) := e5 _ _ h4
    refine q_made (C := C) (xs := [(0, some ("field", .str w0)), (1, some ("line", .int (num row 0))), (2, some ("name", .str w1)), (3, some ("name", .str w2)), (4, some ("name", .str w3))]) (esa_cons (es_new (i := 0) (f := "field") (v := .str w0) rfl (ev_op (ev_var rfl) ev_c (rv_ixL (sq_of hw5) rfl))) (esa_cons (es_new (i := 1) (f := "line") (v := .int (num row 0)) rfl (ev_op (ev_var rfl) ev_c (rv_ixL (sq_of hn5) rfl))) (esa_cons (es_new (i := 2) (f := "name") (v := .str w1) rfl (ev_op (ev_var rfl) ev_c (rv_ixL (sq_of hw5) rfl))) (esa_cons (es_new (i := 3) (f := "name") (v := .str w2) rfl (ev_op (ev_var rfl) ev_c (rv_ixL (sq_of hw5) rfl))) (esa_cons (es_new (i := 4) (f := "name") (v := .str w3) rfl (ev_op (ev_var rfl) ev_c (rv_ixL (sq_of hw5) rfl))) esa_nil))))) (by show 5 ≤ 1000; decide) (fun l G0 m0 => ?_)
    refine q_more (C := C) m0 (ev_var rfl) (ys := [(5, some ("name", .str w4)), (6, some ("machine", .int (num row 1))), (7, some ("channel", .ref tc)), (8, some ("place", .int (num row 2)))]) (esa_cons (es_new (i := 5) (f := "name") (v := .str w4) rfl (ev_op (ev_var rfl) ev_c (rv_ixL (sq_of (m0.ex _ _ hw5)) rfl))) (esa_cons (es_new (i := 6) (f := "machine") (v := .int (num row 1)) rfl (ev_op (ev_var rfl) ev_c (rv_ixL (sq_of (m0.ex _ _ hn5)) rfl))) (esa_cons (es_new (i := 7) (f := "channel") (v := .ref tc) rfl (ev_var rfl)) (esa_cons (es_new (i := 8) (f := "place") (v := .int (num row 2)) rfl (ev_op (ev_var rfl) ev_c (rv_ixL (sq_of (m0.ex _ _ hn5)) rfl))) esa_nil)))) (by show 5 + 4 ≤ 1000; decide) (fun G1 m1 => ?_)
    refine q_more (C := C) m1 (ev_var rfl) (ys := [(9, some ("place", .int (num row 3))), (10, some ("place", .int (num row 4))), (11, none), (12, some ("text", .str w5)), (13, some ("place", .int (num row 5)))]) (esa_cons (es_new (i := 9) (f := "place") (v := .int (num row 3)) rfl (ev_op (ev_var rfl) ev_c (rv_ixL (sq_of (m1.ex _ _ hn5)) rfl))) (esa_cons (es_new (i := 10) (f := "place") (v := .int (num row 4)) rfl (ev_op (ev_var rfl) ev_c (rv_ixL (sq_of (m1.ex _ _ hn5)) rfl))) (esa_cons (es_new0 (i := 11)) (esa_cons (es_new (i := 12) (f := "text") (v := .str w5) rfl (ev_op (ev_var rfl) ev_c (rv_ixL (sq_of (m1.ex _ _ hw5)) rfl))) (esa_cons (es_new (i := 13) (f := "place") (v := .int (num row 5)) rfl (ev_op (ev_var rfl) ev_c (rv_ixL (sq_of (m1.ex _ _ hn5)) rfl))) esa_nil))))) (by show 9 + 5 ≤ 1000; decide) (fun G2 m2 => ?_)
    refine q_more (C := C) m2 (ev_var rfl) (ys := [(14, some ("limit", .int (num row 6))), (15, some ("value", .int (num row 7))), (16, none), (17, some ("place", .int (num row 8)))]) (esa_cons (es_new (i := 14) (f := "limit") (v := .int (num row 6)) rfl (ev_op (ev_var rfl) ev_c (rv_ixL (sq_of (m2.ex _ _ hn5)) rfl))) (esa_cons (es_new (i := 15) (f := "value") (v := .int (num row 7)) rfl (ev_op (ev_var rfl) ev_c (rv_ixL (sq_of (m2.ex _ _ hn5)) rfl))) (esa_cons (es_new0 (i := 16)) (esa_cons (es_new (i := 17) (f := "place") (v := .int (num row 8)) rfl (ev_op (ev_var rfl) ev_c (rv_ixL (sq_of (m2.ex _ _ hn5)) rfl))) esa_nil)))) (by show 14 + 4 ≤ 1000; decide) (fun G3 m3 => ?_)
    refine q_more (C := C) m3 (ev_var rfl) (ys := [(18, none), (19, none)]) (esa_cons (es_new0 (i := 18)) (esa_cons (es_new0 (i := 19)) esa_nil)) (by show 18 + 2 ≤ 1000; decide) (fun G4 m4 => ?_)
    obtain ⟨us, hl, hE⟩ := m4.at_
    have hE' : LsE C G4 us (descs row w0 w1 w2 w3 w4 w5 tc) := hE
    have y4 : Ex H G4 := (x3.trans (e4.trans e5)).trans m4.ex
    refine q_forR1 (n := 20) (ea_cons ev_c ea_nil) (by decide) (fun i σ' H' => ∃ (v3 : Option V), σ' = [some (.ref a), some (.ref rl), some (.ref wl), v3, some (.ref nl), some (.ref tc), some (.ref l), none, none, none] ∧ Ex G4 H') (fun H6 e6 => ⟨_, rfl, e6⟩) (fun i σ' H' hi ⟨v3, hσ, he⟩ => ?_) (fun σ' H6 ⟨v3, hσ, e6⟩ => ?_)
    · subst hσ
      have hi' : i < 20 := by omega
      obtain ⟨o, ho⟩ := desc_at (row := row) (w0 := w0) (w1 := w1) (w2 := w2) (w3 := w3) (w4 := w4) (w5 := w5) (tc := tc) hi'
      obtain ⟨u, hu, hr'⟩ := LsE.at_ hE' ho
      obtain ⟨b, rfl, hb⟩ := errR_is hr'
      have hb' : IsErr G4 b (C i) := hb
      have ix : ∀ {σ9 : L2.St} {H9 : Hp}, Ex G4 H9 → σ9[6]? = some (some (.ref l)) → σ9[3]? = some (some (.int (i : Int))) → Ev (tOp (rIxL K) (tVar 6) (tVar 3)) σ9 H9 (.ref b) := fun e9 s6 s3 => ev_op (ev_var s6) (ev_var s3) (rv_ixL (sq_of (e9 _ _ hl)) (atI_nat hu))
      refine q_when (b := false) (et_or (a := false) (b := false) (et_is (et_not (et_B (ev_cb (ea_cons (ix he rfl rfl) (ea_cons ev_c ea_nil)) (rc_isV (isErr_ex he hb') (T.ex i hi') (fun u r => r) (T.ks i hi'))))) rfl)
        (fun _ => et_is (et_not (et_B (ev_cb (ea_cons (ix he rfl rfl) (ea_cons ev_c ea_nil)) (rc_isV (isErr_ex he hb') (T.ex i hi') (fun u r => r) (T.kv i hi'))))) rfl)) (fun hb => nomatch hb) (fun _ H7 e7 => ?_)
      have y7 := he.trans e7
      refine s_when (b := false) (et_test (ev_opLL (xs := [.int (i : Int)]) (ys := [.int (i : Int)]) (by
        rw [← given_one hi']
        refine el_lcR1 (n := 20) (fun j => decide (i = j)) (fun j => V.int (j : Int)) (ea_cons ev_c ea_nil) ⟨by decide, by decide⟩ (fun _ => rfl) (fun j H8 e8 hj => ?_) (fun j H8 e8 hj _ => ev_var rfl)
        refine et_B (ev_opL1 (xs := bls i (List.range 20)) (y := .int (j : Int)) (el_cx (ea_cons (ix (y7.trans e8) rfl rfl) ea_nil) (fun H9 e9 Q' q' E' => ⟨b, i, rfl, hi', isErr_ex ((y7.trans e8).trans e9) hb', q'⟩)) (fun H9 e9 => ev_var rfl) (fun p H9 hp e9 => rv_ixL (sq_of hp) (atI_nat ?_)))
        unfold bls
        have hj' : j < 20 := by omega
        rw [List.getElem?_map, List.getElem?_range hj']
        rfl) (el_lst (ea_cons (ev_var rfl) ea_nil) (by show 1 ≤ 100000; decide)) (fun p r H8 hp hr8 e8 => rv_neD (d := .list [.int (i : Int)]) (fun H9 e9 => .lst (sq_of (e9 _ _ hp)) (.cons (.int _) .nil)) (fun H9 e9 => .lst (sq_of (e9 _ _ hr8)) (.cons (.int _) .nil)) (sh_1 _)))) (fun hb => nomatch hb) (fun _ H8 e8 => ⟨_, rfl, y7.trans e8⟩)
    subst hσ
    obtain ⟨u0, hu0, a0, d0, eu0, ea0, ed0⟩ := LsE.at_ (i := 0) hE' rfl
    subst eu0
    obtain ⟨u2, hu2, a2, d2, eu2, ea2, ed2⟩ := LsE.at_ (i := 2) hE' rfl
    subst eu2
    obtain ⟨u3, hu3, a3, d3, eu3, ea3, ed3⟩ := LsE.at_ (i := 3) hE' rfl
    subst eu3
    obtain ⟨u4, hu4, a4, d4, eu4, ea4, ed4⟩ := LsE.at_ (i := 4) hE' rfl
    subst eu4
    obtain ⟨u5, hu5, a5, d5, eu5, ea5, ed5⟩ := LsE.at_ (i := 5) hE' rfl
    subst eu5
    obtain ⟨u12, hu12, a12, d12, eu12, ea12, ed12⟩ := LsE.at_ (i := 12) hE' rfl
    subst eu12
    obtain ⟨u1, hu1, a1, d1, eu1, ea1, ed1⟩ := LsE.at_ (i := 1) hE' rfl
    subst eu1
    obtain ⟨u6, hu6, a6, d6, eu6, ea6, ed6⟩ := LsE.at_ (i := 6) hE' rfl
    subst eu6
    obtain ⟨u8, hu8, a8, d8, eu8, ea8, ed8⟩ := LsE.at_ (i := 8) hE' rfl
    subst eu8
    obtain ⟨u9, hu9, a9, d9, eu9, ea9, ed9⟩ := LsE.at_ (i := 9) hE' rfl
    subst eu9
    obtain ⟨u10, hu10, a10, d10, eu10, ea10, ed10⟩ := LsE.at_ (i := 10) hE' rfl
    subst eu10
    obtain ⟨u13, hu13, a13, d13, eu13, ea13, ed13⟩ := LsE.at_ (i := 13) hE' rfl
    subst eu13
    obtain ⟨u14, hu14, a14, d14, eu14, ea14, ed14⟩ := LsE.at_ (i := 14) hE' rfl
    subst eu14
    obtain ⟨u15, hu15, a15, d15, eu15, ea15, ed15⟩ := LsE.at_ (i := 15) hE' rfl
    subst eu15
    obtain ⟨u17, hu17, a17, d17, eu17, ea17, ed17⟩ := LsE.at_ (i := 17) hE' rfl
    subst eu17
    obtain ⟨u7, hu7, a7, d7, eu7, ea7, ed7⟩ := LsE.at_ (i := 7) hE' rfl
    subst eu7
    refine q_asgL (xs := [w0, w1, w2, w3, w4, w5].map V.str) (el_lst (ea_cons (ev_errF (ev_op (ev_var rfl) ev_c (rv_ixL (sq_of (e6 _ _ hl)) (atI_nat (j := 0) hu0))) (e6 _ _ ea0) (e6 _ _ ed0) (xfc (T.ex 0 (by decide))) T0.noN look_one) (ea_cons (ev_errF (ev_op (ev_var rfl) ev_c (rv_ixL (sq_of (e6 _ _ hl)) (atI_nat (j := 2) hu2))) (e6 _ _ ea2) (e6 _ _ ed2) (xfc (T.ex 2 (by decide))) T2.noN look_one) (ea_cons (ev_errF (ev_op (ev_var rfl) ev_c (rv_ixL (sq_of (e6 _ _ hl)) (atI_nat (j := 3) hu3))) (e6 _ _ ea3) (e6 _ _ ed3) (xfc (T.ex 3 (by decide))) T3.noN look_one) (ea_cons (ev_errF (ev_op (ev_var rfl) ev_c (rv_ixL (sq_of (e6 _ _ hl)) (atI_nat (j := 4) hu4))) (e6 _ _ ea4) (e6 _ _ ed4) (xfc (T.ex 4 (by decide))) T4.noN look_one) (ea_cons (ev_errF (ev_op (ev_var rfl) ev_c (rv_ixL (sq_of (e6 _ _ hl)) (atI_nat (j := 5) hu5))) (e6 _ _ ea5) (e6 _ _ ed5) (xfc (T.ex 5 (by decide))) T5.noN look_one) (ea_cons (ev_errF (ev_op (ev_var rfl) ev_c (rv_ixL (sq_of (e6 _ _ hl)) (atI_nat (j := 12) hu12))) (e6 _ _ ea12) (e6 _ _ ed12) (xfc (T.ex 12 (by decide))) T12.noN look_one) ea_nil)))))) (by show 6 ≤ 100000; decide)) (fun tl H7 htl e7 h7 => ?_)
    have y7 := e6.trans e7
    refine q_asgL (xs := [.int (num row 0), .int (num row 1), .int (num row 2), .int (num row 3), .int (num row 4), .int (num row 5)]) (el_lst (ea_cons (ev_errF (ev_op (ev_var rfl) ev_c (rv_ixL (sq_of (y7 _ _ hl)) (atI_nat (j := 1) hu1))) (y7 _ _ ea1) (y7 _ _ ed1) (xfc (T.ex 1 (by decide))) T1.noN look_one) (ea_cons (ev_errF (ev_op (ev_var rfl) ev_c (rv_ixL (sq_of (y7 _ _ hl)) (atI_nat (j := 6) hu6))) (y7 _ _ ea6) (y7 _ _ ed6) (xfc (T.ex 6 (by decide))) T6.noN look_one) (ea_cons (ev_errF (ev_op (ev_var rfl) ev_c (rv_ixL (sq_of (y7 _ _ hl)) (atI_nat (j := 8) hu8))) (y7 _ _ ea8) (y7 _ _ ed8) (xfc (T.ex 8 (by decide))) T8.noN look_one) (ea_cons (ev_errF (ev_op (ev_var rfl) ev_c (rv_ixL (sq_of (y7 _ _ hl)) (atI_nat (j := 9) hu9))) (y7 _ _ ea9) (y7 _ _ ed9) (xfc (T.ex 9 (by decide))) T9.noN look_one) (ea_cons (ev_errF (ev_op (ev_var rfl) ev_c (rv_ixL (sq_of (y7 _ _ hl)) (atI_nat (j := 10) hu10))) (y7 _ _ ea10) (y7 _ _ ed10) (xfc (T.ex 10 (by decide))) T10.noN look_one) (ea_cons (ev_errF (ev_op (ev_var rfl) ev_c (rv_ixL (sq_of (y7 _ _ hl)) (atI_nat (j := 13) hu13))) (y7 _ _ ea13) (y7 _ _ ed13) (xfc (T.ex 13 (by decide))) T13.noN look_one) ea_nil)))))) (by show 6 ≤ 100000; decide)) (fun cl H8 hcl e8 h8 => ?_)
    have y8 := y7.trans e8
    refine q_extL (xs := [.int (num row 0), .int (num row 1), .int (num row 2), .int (num row 3), .int (num row 4), .int (num row 5)]) (ys := [.int (num row 6), .int (num row 7), .int (num row 8)]) h8 (ev_var rfl) (el_lst (ea_cons (ev_errF (ev_op (ev_var rfl) ev_c (rv_ixL (sq_of (y8 _ _ hl)) (atI_nat (j := 14) hu14))) (y8 _ _ ea14) (y8 _ _ ed14) (xfc (T.ex 14 (by decide))) T14.noN look_one) (ea_cons (ev_errF (ev_op (ev_var rfl) ev_c (rv_ixL (sq_of (y8 _ _ hl)) (atI_nat (j := 15) hu15))) (y8 _ _ ea15) (y8 _ _ ed15) (xfc (T.ex 15 (by decide))) T15.noN look_one) (ea_cons (ev_errF (ev_op (ev_var rfl) ev_c (rv_ixL (sq_of (y8 _ _ hl)) (atI_nat (j := 17) hu17))) (y8 _ _ ea17) (y8 _ _ ed17) (xfc (T.ex 17 (by decide))) T17.noN look_one) ea_nil))) (by show 3 ≤ 100000; decide)) (by show 6 + 3 ≤ sizeLine; decide) (fun H9 e9 => ?_)
    have y9 : Ex H7 (upd H9 cl (.lst ([.int (num row 0), .int (num row 1), .int (num row 2), .int (num row 3), .int (num row 4), .int (num row 5)] ++ [.int (num row 6), .int (num row 7), .int (num row 8)]))) := Ex.mut (e8.trans e9) hcl
    have z9 : Ex G4 (upd H9 cl (.lst ([.int (num row 0), .int (num row 1), .int (num row 2), .int (num row 3), .int (num row 4), .int (num row 5)] ++ [.int (num row 6), .int (num row 7), .int (num row 8)]))) := y7.trans y9
    have hw9 := (m4.ex.trans z9) _ _ hw5
    have hn9 := (m4.ex.trans z9) _ _ hn5
    have ht9 := (m4.ex.trans z9) _ _ h5
    have h79 := y9 _ _ h7
    refine s_ret (v := .bl true) (ev_is (ev_andV (a := true) (b := true) (ev_op (ev_var rfl) (ev_var rfl) (rv_eqV h79 hw9 (flat_strs _))) (fun _ => ev_andV (a := true) (b := true)
      (ev_opL (xs := [num row 0, num row 1, num row 2, num row 3, num row 4, num row 5, num row 6, num row 7, num row 8].map V.int) (x := .ref cl) (ev_var rfl) (el_sl (ev_var rfl) eo_none (eo_some ev_c) (sq_of hn9)) (fun p H10 hp e10 => rv_eqV (xs := [num row 0, num row 1, num row 2, num row 3, num row 4, num row 5, num row 6, num row 7, num row 8].map V.int) (e10 _ _ upd_same) hp (flat_ints _)))
      (fun _ => ev_op (x := .ref tc) (y := .ref tc) (ev_errF (ev_op (ev_var rfl) ev_c (rv_ixL (sq_of (z9 _ _ hl)) (atI_nat (j := 7) hu7))) (z9 _ _ ea7) (z9 _ _ ed7) (xfc (T.ex 7 (by decide))) T7.noN look_one) (ev_var rfl) (rv_eqD (d := .tuple [.int (num row 8), .int (num row 9), .int 2]) (fun H10 e10 => .tup (st_of (e10 _ _ ht9)) (.cons (.int _) (.cons (.int _) (.cons (.int _) .nil)))) (fun H10 e10 => .tup (st_of (e10 _ _ ht9)) (.cons (.int _) (.cons (.int _) (.cons (.int _) .nil)))) (sh_3 _ _ _)))))
      rfl) (fun H10 e10 => q H10 ((y4.trans z9).trans e10))
end
end Fs

set_option Elab.async false
set_option linter.all false
set_option maxRecDepth 100000
set_option maxHeartbeats 16000000
namespace Fs
open PySem PySem.Spec PyProof.Rows L2 Evl FsE FsC FsV
abbrev tailE (S : Addr) : List Value := [.ref S, .type "ValueError", .type "Exception", .type "BaseException", .type "object"]
/-- the class at D, by its way up -/
def UpE (K : PySem.W.Frag) (S D : Addr) : Prop := ∃ cd, PySem.W.clsIn K D = some cd ∧ cd.mro = .ref D :: tailE S
theorem upE_sub {K : PySem.W.Frag} {S D : Addr} (h : UpE K S D) (v : Value) : PySem.W.subIn K (.ref D) v = some ((Value.ref D :: tailE S).contains v) := by
  obtain ⟨cd, h1, h2⟩ := h
  show PySem.W.mroIn K D v = _
  unfold PySem.W.mroIn
  rw [h1, Option.bind_some, h2]
  rfl
theorem upE_is {K : PySem.W.Frag} {S D : Addr} (h : UpE K S D) : PySem.W.isClsIn K D = true := by
  obtain ⟨cd, h1, _⟩ := h
  unfold PySem.W.isClsIn
  rw [h1]
  rfl
theorem kit_ref {K : PySem.W.Frag} {S D D' : Addr} (h : UpE K S D) (ic : PySem.W.isClsIn K D' = true) (ty : PySem.W.typeIn K (.ref D') = some (.type "type")) {b : Bool} (hb : (Value.ref D :: tailE S).contains (.ref D') = b) : PySem.W.kitOne K (.ref D) (.ref D') = some b := by
  unfold PySem.W.kitOne
  by_cases e : D = D'
  · subst e
    rw [if_pos (beq_self_eq_true _)]
    rw [← hb]
    simp
  · have ne : (Value.ref D == Value.ref D') = false := by
      refine beq_eq_false_iff_ne.mpr fun z => e ?_
      cases z
      rfl
    have ic' : (PySem.W.clsIn K D').isSome = true := ic
    rw [ne, if_neg (by decide)]
    unfold PySem.W.kitCls
    rw [← hb, ← upE_sub h]
    simp only [ic', ty, beq_self_eq_true, Bool.and_self, if_true]
theorem kit_ve {K : PySem.W.Frag} {S D : Addr} (h : UpE K S D) : PySem.W.kitOne K (.ref D) (.type "ValueError") = some true := by
  unfold PySem.W.kitOne
  rw [show (Value.ref D == Value.type "ValueError") = false from rfl, if_neg (by decide)]
  unfold PySem.W.kitCls
  show (if PySem.W.kitMeta "ValueError" = true then PySem.W.subIn K (.ref D) (.type "ValueError") else none) = some true
  rw [if_pos (by decide +kernel), upE_sub h]
  rfl
theorem con_ref {S D D' : Addr} (n : D' ≠ S) : (Value.ref D :: tailE S).contains (.ref D') = decide (D = D') := by
  by_cases e : D = D'
  · subst e
    rw [decide_eq_true rfl]
    simp
  · rw [decide_eq_false e]
    simp [tailE, n, Ne.symm e]
theorem con_S {S D : Addr} : (Value.ref D :: tailE S).contains (.ref S) = true := by simp [tailE]
theorem all_mk {P : Program} {w : World} {K : PySem.W.Frag} {h : Heap} {mg : Str → Option Value} {fa : Addr} (X : K.In h) (G : h.Ns mainGlobals mg) (hfa : mg "law" = some (.ref fa))
    {fcellat : Addr} {odcellat ancellat : Option Addr} {slcellat : Array (Option Value)} {occellat kVcellat dccellat pmcellat cdcellat ctcellat : Value}
    {fmixed : Addr} {odmixed anmixed : Option Addr} {slmixed : Array (Option Value)} {ocmixed kVmixed dcmixed pmmixed cdmixed ctmixed : Value}
    {frow : Addr} {odrow anrow : Option Addr} {slrow : Array (Option Value)} {ocrow kVrow dcrow pmrow cdrow ctrow : Value}
    {fkinds : Addr} {odkinds ankinds : Option Addr} {slkinds : Array (Option Value)} {ockinds kVkinds dckinds pmkinds cdkinds ctkinds : Value}
    {fwords : Addr} {odwords anwords : Option Addr} {slwords : Array (Option Value)} {ocwords kVwords dcwords pmwords cdwords ctwords : Value}
    {flaw : Addr} {odlaw anlaw : Option Addr} {sllaw : Array (Option Value)} {oclaw kVlaw dclaw pmlaw cdlaw ctlaw : Value}
    {cS : Addr}
    {C0 N0 : Addr} {nm0 q0 : Str} {bs0 : List Value} {sn0 : List Str} {sub0 : List Value} {ab0 : Bool} {col0 : Option Bool} {dd0 : Option Addr} {m0_0 m0_1 m0_2 m0_3 m0_5 : Option Value}
    {fI0 cda0 cc0 : Addr} {ocB0 kVB0 dcB0 pmB0 ctB0 ccl0 clB0 : Value} {odB0 anB0 cdd0 cld0 : Option Addr} {slB0 ccs0 csl0 : Array (Option Value)} {vsB0 : Array Value} {fileB0 : Str} {tfB0 : Tok} {zM0 : Str} {b0_1 b0_2 q0_0 r0_0 r0_1 r0_2 r0_3 r0_4 r0_5 r0_6 r0_7 r0_8 : Pos}
    {C1 N1 : Addr} {nm1 q1 : Str} {bs1 : List Value} {sn1 : List Str} {sub1 : List Value} {ab1 : Bool} {col1 : Option Bool} {dd1 : Option Addr} {m1_0 m1_1 m1_2 m1_3 m1_5 : Option Value}
    {fI1 cda1 cc1 : Addr} {ocB1 kVB1 dcB1 pmB1 ctB1 ccl1 clB1 : Value} {odB1 anB1 cdd1 cld1 : Option Addr} {slB1 ccs1 csl1 : Array (Option Value)} {vsB1 : Array Value} {fileB1 : Str} {tfB1 : Tok} {zM1 : Str} {b1_1 b1_2 q1_0 r1_0 r1_1 r1_2 r1_3 r1_4 r1_5 r1_6 r1_7 r1_8 : Pos}
    {C2 N2 : Addr} {nm2 q2 : Str} {bs2 : List Value} {sn2 : List Str} {sub2 : List Value} {ab2 : Bool} {col2 : Option Bool} {dd2 : Option Addr} {m2_0 m2_1 m2_2 m2_3 m2_5 : Option Value}
    {fI2 cda2 cc2 : Addr} {ocB2 kVB2 dcB2 pmB2 ctB2 ccl2 clB2 : Value} {odB2 anB2 cdd2 cld2 : Option Addr} {slB2 ccs2 csl2 : Array (Option Value)} {vsB2 : Array Value} {fileB2 : Str} {tfB2 : Tok} {zM2 : Str} {b2_1 b2_2 q2_0 r2_0 r2_1 r2_2 r2_3 r2_4 r2_5 r2_6 r2_7 r2_8 : Pos}
    {C3 N3 : Addr} {nm3 q3 : Str} {bs3 : List Value} {sn3 : List Str} {sub3 : List Value} {ab3 : Bool} {col3 : Option Bool} {dd3 : Option Addr} {m3_0 m3_1 m3_2 m3_3 m3_5 : Option Value}
    {fI3 cda3 cc3 : Addr} {ocB3 kVB3 dcB3 pmB3 ctB3 ccl3 clB3 : Value} {odB3 anB3 cdd3 cld3 : Option Addr} {slB3 ccs3 csl3 : Array (Option Value)} {vsB3 : Array Value} {fileB3 : Str} {tfB3 : Tok} {zM3 : Str} {b3_1 b3_2 q3_0 r3_0 r3_1 r3_2 r3_3 r3_4 r3_5 r3_6 r3_7 r3_8 : Pos}
    {C4 N4 : Addr} {nm4 q4 : Str} {bs4 : List Value} {sn4 : List Str} {sub4 : List Value} {ab4 : Bool} {col4 : Option Bool} {dd4 : Option Addr} {m4_0 m4_1 m4_2 m4_3 m4_5 : Option Value}
    {fI4 cda4 cc4 : Addr} {ocB4 kVB4 dcB4 pmB4 ctB4 ccl4 clB4 : Value} {odB4 anB4 cdd4 cld4 : Option Addr} {slB4 ccs4 csl4 : Array (Option Value)} {vsB4 : Array Value} {fileB4 : Str} {tfB4 : Tok} {zM4 : Str} {b4_1 b4_2 q4_0 r4_0 r4_1 r4_2 r4_3 r4_4 r4_5 r4_6 r4_7 r4_8 : Pos}
    {C5 N5 : Addr} {nm5 q5 : Str} {bs5 : List Value} {sn5 : List Str} {sub5 : List Value} {ab5 : Bool} {col5 : Option Bool} {dd5 : Option Addr} {m5_0 m5_1 m5_2 m5_3 m5_5 : Option Value}
    {fI5 cda5 cc5 : Addr} {ocB5 kVB5 dcB5 pmB5 ctB5 ccl5 clB5 : Value} {odB5 anB5 cdd5 cld5 : Option Addr} {slB5 ccs5 csl5 : Array (Option Value)} {vsB5 : Array Value} {fileB5 : Str} {tfB5 : Tok} {zM5 : Str} {b5_1 b5_2 q5_0 r5_0 r5_1 r5_2 r5_3 r5_4 r5_5 r5_6 r5_7 r5_8 : Pos}
    {C6 N6 : Addr} {nm6 q6 : Str} {bs6 : List Value} {sn6 : List Str} {sub6 : List Value} {ab6 : Bool} {col6 : Option Bool} {dd6 : Option Addr} {m6_0 m6_1 m6_2 m6_3 m6_5 : Option Value}
    {fI6 cda6 cc6 : Addr} {ocB6 kVB6 dcB6 pmB6 ctB6 ccl6 clB6 : Value} {odB6 anB6 cdd6 cld6 : Option Addr} {slB6 ccs6 csl6 : Array (Option Value)} {vsB6 : Array Value} {fileB6 : Str} {tfB6 : Tok} {zM6 : Str} {b6_1 b6_2 q6_0 r6_0 r6_1 r6_2 r6_3 r6_4 r6_5 r6_6 r6_7 r6_8 : Pos}
    {C7 N7 : Addr} {nm7 q7 : Str} {bs7 : List Value} {sn7 : List Str} {sub7 : List Value} {ab7 : Bool} {col7 : Option Bool} {dd7 : Option Addr} {m7_0 m7_1 m7_2 m7_3 m7_5 : Option Value}
    {fI7 cda7 cc7 : Addr} {ocB7 kVB7 dcB7 pmB7 ctB7 ccl7 clB7 : Value} {odB7 anB7 cdd7 cld7 : Option Addr} {slB7 ccs7 csl7 : Array (Option Value)} {vsB7 : Array Value} {fileB7 : Str} {tfB7 : Tok} {zM7 : Str} {b7_1 b7_2 q7_0 r7_0 r7_1 r7_2 r7_3 r7_4 r7_5 r7_6 r7_7 r7_8 : Pos}
    {C8 N8 : Addr} {nm8 q8 : Str} {bs8 : List Value} {sn8 : List Str} {sub8 : List Value} {ab8 : Bool} {col8 : Option Bool} {dd8 : Option Addr} {m8_0 m8_1 m8_2 m8_3 m8_5 : Option Value}
    {fI8 cda8 cc8 : Addr} {ocB8 kVB8 dcB8 pmB8 ctB8 ccl8 clB8 : Value} {odB8 anB8 cdd8 cld8 : Option Addr} {slB8 ccs8 csl8 : Array (Option Value)} {vsB8 : Array Value} {fileB8 : Str} {tfB8 : Tok} {zM8 : Str} {b8_1 b8_2 q8_0 r8_0 r8_1 r8_2 r8_3 r8_4 r8_5 r8_6 r8_7 r8_8 : Pos}
    {C9 N9 : Addr} {nm9 q9 : Str} {bs9 : List Value} {sn9 : List Str} {sub9 : List Value} {ab9 : Bool} {col9 : Option Bool} {dd9 : Option Addr} {m9_0 m9_1 m9_2 m9_3 m9_5 : Option Value}
    {fI9 cda9 cc9 : Addr} {ocB9 kVB9 dcB9 pmB9 ctB9 ccl9 clB9 : Value} {odB9 anB9 cdd9 cld9 : Option Addr} {slB9 ccs9 csl9 : Array (Option Value)} {vsB9 : Array Value} {fileB9 : Str} {tfB9 : Tok} {zM9 : Str} {b9_1 b9_2 q9_0 r9_0 r9_1 r9_2 r9_3 r9_4 r9_5 r9_6 r9_7 r9_8 : Pos}
    {C10 N10 : Addr} {nm10 q10 : Str} {bs10 : List Value} {sn10 : List Str} {sub10 : List Value} {ab10 : Bool} {col10 : Option Bool} {dd10 : Option Addr} {m10_0 m10_1 m10_2 m10_3 m10_5 : Option Value}
    {fI10 cda10 cc10 : Addr} {ocB10 kVB10 dcB10 pmB10 ctB10 ccl10 clB10 : Value} {odB10 anB10 cdd10 cld10 : Option Addr} {slB10 ccs10 csl10 : Array (Option Value)} {vsB10 : Array Value} {fileB10 : Str} {tfB10 : Tok} {zM10 : Str} {b10_1 b10_2 q10_0 r10_0 r10_1 r10_2 r10_3 r10_4 r10_5 r10_6 r10_7 r10_8 : Pos}
    {C11 N11 : Addr} {nm11 q11 : Str} {bs11 : List Value} {sn11 : List Str} {sub11 : List Value} {ab11 : Bool} {col11 : Option Bool} {dd11 : Option Addr} {m11_0 m11_1 m11_2 m11_3 m11_5 : Option Value}
    {C12 N12 : Addr} {nm12 q12 : Str} {bs12 : List Value} {sn12 : List Str} {sub12 : List Value} {ab12 : Bool} {col12 : Option Bool} {dd12 : Option Addr} {m12_0 m12_1 m12_2 m12_3 m12_5 : Option Value}
    {fI12 cda12 cc12 : Addr} {ocB12 kVB12 dcB12 pmB12 ctB12 ccl12 clB12 : Value} {odB12 anB12 cdd12 cld12 : Option Addr} {slB12 ccs12 csl12 : Array (Option Value)} {vsB12 : Array Value} {fileB12 : Str} {tfB12 : Tok} {zM12 : Str} {b12_1 b12_2 q12_0 r12_0 r12_1 r12_2 r12_3 r12_4 r12_5 r12_6 r12_7 r12_8 : Pos}
    {C13 N13 : Addr} {nm13 q13 : Str} {bs13 : List Value} {sn13 : List Str} {sub13 : List Value} {ab13 : Bool} {col13 : Option Bool} {dd13 : Option Addr} {m13_0 m13_1 m13_2 m13_3 m13_5 : Option Value}
    {fI13 cda13 cc13 : Addr} {ocB13 kVB13 dcB13 pmB13 ctB13 ccl13 clB13 : Value} {odB13 anB13 cdd13 cld13 : Option Addr} {slB13 ccs13 csl13 : Array (Option Value)} {vsB13 : Array Value} {fileB13 : Str} {tfB13 : Tok} {zM13 : Str} {b13_1 b13_2 q13_0 r13_0 r13_1 r13_2 r13_3 r13_4 r13_5 r13_6 r13_7 r13_8 : Pos}
    {C14 N14 : Addr} {nm14 q14 : Str} {bs14 : List Value} {sn14 : List Str} {sub14 : List Value} {ab14 : Bool} {col14 : Option Bool} {dd14 : Option Addr} {m14_0 m14_1 m14_2 m14_3 m14_5 : Option Value}
    {fI14 cda14 cc14 : Addr} {ocB14 kVB14 dcB14 pmB14 ctB14 ccl14 clB14 : Value} {odB14 anB14 cdd14 cld14 : Option Addr} {slB14 ccs14 csl14 : Array (Option Value)} {vsB14 : Array Value} {fileB14 : Str} {tfB14 : Tok} {zM14 : Str} {b14_1 b14_2 q14_0 r14_0 r14_1 r14_2 r14_3 r14_4 r14_5 r14_6 r14_7 r14_8 : Pos}
    {C15 N15 : Addr} {nm15 q15 : Str} {bs15 : List Value} {sn15 : List Str} {sub15 : List Value} {ab15 : Bool} {col15 : Option Bool} {dd15 : Option Addr} {m15_0 m15_1 m15_2 m15_3 m15_5 : Option Value}
    {fI15 cda15 cc15 : Addr} {ocB15 kVB15 dcB15 pmB15 ctB15 ccl15 clB15 : Value} {odB15 anB15 cdd15 cld15 : Option Addr} {slB15 ccs15 csl15 : Array (Option Value)} {vsB15 : Array Value} {fileB15 : Str} {tfB15 : Tok} {zM15 : Str} {b15_1 b15_2 q15_0 r15_0 r15_1 r15_2 r15_3 r15_4 r15_5 r15_6 r15_7 r15_8 : Pos}
    {C16 N16 : Addr} {nm16 q16 : Str} {bs16 : List Value} {sn16 : List Str} {sub16 : List Value} {ab16 : Bool} {col16 : Option Bool} {dd16 : Option Addr} {m16_0 m16_1 m16_2 m16_3 m16_5 : Option Value}
    {C17 N17 : Addr} {nm17 q17 : Str} {bs17 : List Value} {sn17 : List Str} {sub17 : List Value} {ab17 : Bool} {col17 : Option Bool} {dd17 : Option Addr} {m17_0 m17_1 m17_2 m17_3 m17_5 : Option Value}
    {fI17 cda17 cc17 : Addr} {ocB17 kVB17 dcB17 pmB17 ctB17 ccl17 clB17 : Value} {odB17 anB17 cdd17 cld17 : Option Addr} {slB17 ccs17 csl17 : Array (Option Value)} {vsB17 : Array Value} {fileB17 : Str} {tfB17 : Tok} {zM17 : Str} {b17_1 b17_2 q17_0 r17_0 r17_1 r17_2 r17_3 r17_4 r17_5 r17_6 r17_7 r17_8 : Pos}
    {C18 N18 : Addr} {nm18 q18 : Str} {bs18 : List Value} {sn18 : List Str} {sub18 : List Value} {ab18 : Bool} {col18 : Option Bool} {dd18 : Option Addr} {m18_0 m18_1 m18_2 m18_3 m18_5 : Option Value}
    {C19 N19 : Addr} {nm19 q19 : Str} {bs19 : List Value} {sn19 : List Str} {sub19 : List Value} {ab19 : Bool} {col19 : Option Bool} {dd19 : Option Addr} {m19_0 m19_1 m19_2 m19_3 m19_5 : Option Value}
    (acellat : PySem.W.nsIn K mainGlobals "_law_cell_at" = some (some (.ref fcellat)))
    (lcellat : K.lookup fcellat = some ⟨occellat, odcellat, .func (PySem.W.fnOf "_law_cell_at" "_law_cell_at" (defArgs (topS 23)) (defBody (topS 23)) (defScope (topS 23)) .none kVcellat dccellat pmcellat ancellat cdcellat ctcellat), slcellat⟩)
    (ccellat : PySem.W.codeIn K cdcellat "_law_cell_at" = true)
    (kcellat : PySem.W.keepIn K (.ref fcellat) = true)
    (amixed : PySem.W.nsIn K mainGlobals "_law_mixed" = some (some (.ref fmixed)))
    (lmixed : K.lookup fmixed = some ⟨ocmixed, odmixed, .func (PySem.W.fnOf "_law_mixed" "_law_mixed" (defArgs (topS 24)) (defBody (topS 24)) (defScope (topS 24)) .none kVmixed dcmixed pmmixed anmixed cdmixed ctmixed), slmixed⟩)
    (cmixed : PySem.W.codeIn K cdmixed "_law_mixed" = true)
    (kmixed : PySem.W.keepIn K (.ref fmixed) = true)
    (arow : PySem.W.nsIn K mainGlobals "_law_row" = some (some (.ref frow)))
    (lrow : K.lookup frow = some ⟨ocrow, odrow, .func (PySem.W.fnOf "_law_row" "_law_row" (defArgs (topS 25)) (defBody (topS 25)) (defScope (topS 25)) .none kVrow dcrow pmrow anrow cdrow ctrow), slrow⟩)
    (crow : PySem.W.codeIn K cdrow "_law_row" = true)
    (krow : PySem.W.keepIn K (.ref frow) = true)
    (akinds : PySem.W.nsIn K mainGlobals "_law_kinds" = some (some (.ref fkinds)))
    (lkinds : K.lookup fkinds = some ⟨ockinds, odkinds, .func (PySem.W.fnOf "_law_kinds" "_law_kinds" (defArgs (topS 26)) (defBody (topS 26)) (defScope (topS 26)) .none kVkinds dckinds pmkinds ankinds cdkinds ctkinds), slkinds⟩)
    (ckinds : PySem.W.codeIn K cdkinds "_law_kinds" = true)
    (kkinds : PySem.W.keepIn K (.ref fkinds) = true)
    (awords : PySem.W.nsIn K mainGlobals "_law_words" = some (some (.ref fwords)))
    (lwords : K.lookup fwords = some ⟨ocwords, odwords, .func (PySem.W.fnOf "_law_words" "_law_words" (defArgs (topS 27)) (defBody (topS 27)) (defScope (topS 27)) .none kVwords dcwords pmwords anwords cdwords ctwords), slwords⟩)
    (cwords : PySem.W.codeIn K cdwords "_law_words" = true)
    (kwords : PySem.W.keepIn K (.ref fwords) = true)
    (alaw : PySem.W.nsIn K mainGlobals "law" = some (some (.ref flaw)))
    (llaw : K.lookup flaw = some ⟨oclaw, odlaw, .func (PySem.W.fnOf "law" "law" (defArgs (topS 28)) (defBody (topS 28)) (defScope (topS 28)) .none kVlaw dclaw pmlaw anlaw cdlaw ctlaw), sllaw⟩)
    (claw : PySem.W.codeIn K cdlaw "law" = true)
    (klaw : PySem.W.keepIn K (.ref flaw) = true)
    (gS : PySem.W.nsIn K mainGlobals "SeatsError" = some (some (.ref cS)))
    (opq : PySem.W.nsIn K cStatics "thirdparty.any" = some none)
    (topB : (P.main.scope.names.lookup ("super" : Str)).isSome = false)
    (hnC : PySem.W.specialIn K (.builtin "object.__class__") "__get__" = some (some (.builtin "getset_descriptor.__get__")))
    (htC : PySem.W.takesIn K (.builtin "object.__class__") = some true)
    (gn0 : PySem.W.nsIn K mainGlobals "BadTerm" = some (some (.ref C0)))
    (x0 : K.lookup C0 = some (excClassObj nm0 q0 C0 N0 bs0 [.ref cS, .type "ValueError", .type "Exception", .type "BaseException", .type "object"] true sn0 sub0 ab0 col0 dd0 m0_0 m0_1 m0_2 m0_3 m0_5 "ValueError.__new__"))
    (ga0 : PySem.W.findIn K (.ref C0) "__getattribute__" = some (some (.builtin "BaseException.__getattribute__")))
    (gg0 : PySem.W.findIn K (.ref C0) "__getattr__" = some none)
    (ex0 : PySem.W.subIn K (.ref C0) (.type "BaseException") = some true)
    (hd0 : PySem.W.hasDictIn K C0 = true)
    (ha0 : PySem.W.findIn K (.ref C0) "__class__" = some (some (.builtin "object.__class__")))
    (hm0 : PySem.W.mroIn K C0 (.type "object") = some true)
    (ty0 : PySem.W.typeIn K (.ref C0) = some (.type "type"))
    (kp0 : PySem.W.keepIn K (.ref C0) = true)
    (ei0 : PySem.W.excInitIn K C0 [.type "ValueError", .type "Exception", .type "BaseException", .type "object"] "ValueError.__new__" = true)
    (sa0 : PySem.W.findIn K (.ref C0) "__setattr__" = some (some (.builtin "object.__setattr__")))
    (no0 : PySem.W.findIn K (.ref C0) "field" = some none)
    (iB0 : PySem.W.findIn K (.ref C0) "__init__" = some (some (.ref fI0)))
    (tB0 : PySem.W.typeIn K (.ref fI0) = some (.type "function"))
    (ve0 : PySem.W.subIn K (.ref C0) (.type "ValueError") = some true)
    (mr0 : PySem.W.mroIn K C0 (.ref C0) = some true)
    (sp0 : PySem.W.ks_superIn K C0 C0 "__init__" = some (some (.builtin "ValueError.__init__")))
    (lB0 : K.lookup fI0 = some ⟨ocB0, odB0, .func (PySem.W.ksFn "__init__" "BadTerm.__init__" (FsBfield.eA b0_1 b0_2) (FsBfield.eB (FsBfield.eM zM0 q0_0) r0_0 r0_1 r0_2 r0_3 r0_4 r0_5 r0_6 r0_7 r0_8) FsBfield.eS .none kVB0 dcB0 pmB0 anB0 (.ref cda0) ctB0 cc0), slB0⟩)
    (cB0 : PySem.W.codeIn K (.ref cda0) "BadTerm.__init__" = true)
    (oB0 : K.lookup cda0 = some ⟨ccl0, cdd0, .fields vsB0, ccs0⟩)
    (vB0 : vsB0[2]? = some (.str fileB0 tfB0))
    (fB0 : ((P.main.file : Str) == fileB0) = true)
    (ce0 : K.lookup cc0 = some ⟨clB0, cld0, .cell (some (.ref C0)), csl0⟩)
    (ln0 : (r0_2.endLine == r0_3.line) = true)
    (zM0l : zM0.length ≤ 1000)
    (gn1 : PySem.W.nsIn K mainGlobals "BadText" = some (some (.ref C1)))
    (x1 : K.lookup C1 = some (excClassObj nm1 q1 C1 N1 bs1 [.ref cS, .type "ValueError", .type "Exception", .type "BaseException", .type "object"] true sn1 sub1 ab1 col1 dd1 m1_0 m1_1 m1_2 m1_3 m1_5 "ValueError.__new__"))
    (ga1 : PySem.W.findIn K (.ref C1) "__getattribute__" = some (some (.builtin "BaseException.__getattribute__")))
    (gg1 : PySem.W.findIn K (.ref C1) "__getattr__" = some none)
    (ex1 : PySem.W.subIn K (.ref C1) (.type "BaseException") = some true)
    (hd1 : PySem.W.hasDictIn K C1 = true)
    (ha1 : PySem.W.findIn K (.ref C1) "__class__" = some (some (.builtin "object.__class__")))
    (hm1 : PySem.W.mroIn K C1 (.type "object") = some true)
    (ty1 : PySem.W.typeIn K (.ref C1) = some (.type "type"))
    (kp1 : PySem.W.keepIn K (.ref C1) = true)
    (ei1 : PySem.W.excInitIn K C1 [.type "ValueError", .type "Exception", .type "BaseException", .type "object"] "ValueError.__new__" = true)
    (sa1 : PySem.W.findIn K (.ref C1) "__setattr__" = some (some (.builtin "object.__setattr__")))
    (no1 : PySem.W.findIn K (.ref C1) "line" = some none)
    (iB1 : PySem.W.findIn K (.ref C1) "__init__" = some (some (.ref fI1)))
    (tB1 : PySem.W.typeIn K (.ref fI1) = some (.type "function"))
    (ve1 : PySem.W.subIn K (.ref C1) (.type "ValueError") = some true)
    (mr1 : PySem.W.mroIn K C1 (.ref C1) = some true)
    (sp1 : PySem.W.ks_superIn K C1 C1 "__init__" = some (some (.builtin "ValueError.__init__")))
    (lB1 : K.lookup fI1 = some ⟨ocB1, odB1, .func (PySem.W.ksFn "__init__" "BadText.__init__" (FsBline.eA b1_1 b1_2) (FsBline.eB (FsBline.eM zM1 q1_0) r1_0 r1_1 r1_2 r1_3 r1_4 r1_5 r1_6 r1_7 r1_8) FsBline.eS .none kVB1 dcB1 pmB1 anB1 (.ref cda1) ctB1 cc1), slB1⟩)
    (cB1 : PySem.W.codeIn K (.ref cda1) "BadText.__init__" = true)
    (oB1 : K.lookup cda1 = some ⟨ccl1, cdd1, .fields vsB1, ccs1⟩)
    (vB1 : vsB1[2]? = some (.str fileB1 tfB1))
    (fB1 : ((P.main.file : Str) == fileB1) = true)
    (ce1 : K.lookup cc1 = some ⟨clB1, cld1, .cell (some (.ref C1)), csl1⟩)
    (ln1 : (r1_2.endLine == r1_3.line) = true)
    (zM1l : zM1.length ≤ 1000)
    (gn2 : PySem.W.nsIn K mainGlobals "NoName" = some (some (.ref C2)))
    (x2 : K.lookup C2 = some (excClassObj nm2 q2 C2 N2 bs2 [.ref cS, .type "ValueError", .type "Exception", .type "BaseException", .type "object"] true sn2 sub2 ab2 col2 dd2 m2_0 m2_1 m2_2 m2_3 m2_5 "ValueError.__new__"))
    (ga2 : PySem.W.findIn K (.ref C2) "__getattribute__" = some (some (.builtin "BaseException.__getattribute__")))
    (gg2 : PySem.W.findIn K (.ref C2) "__getattr__" = some none)
    (ex2 : PySem.W.subIn K (.ref C2) (.type "BaseException") = some true)
    (hd2 : PySem.W.hasDictIn K C2 = true)
    (ha2 : PySem.W.findIn K (.ref C2) "__class__" = some (some (.builtin "object.__class__")))
    (hm2 : PySem.W.mroIn K C2 (.type "object") = some true)
    (ty2 : PySem.W.typeIn K (.ref C2) = some (.type "type"))
    (kp2 : PySem.W.keepIn K (.ref C2) = true)
    (ei2 : PySem.W.excInitIn K C2 [.type "ValueError", .type "Exception", .type "BaseException", .type "object"] "ValueError.__new__" = true)
    (sa2 : PySem.W.findIn K (.ref C2) "__setattr__" = some (some (.builtin "object.__setattr__")))
    (no2 : PySem.W.findIn K (.ref C2) "name" = some none)
    (iB2 : PySem.W.findIn K (.ref C2) "__init__" = some (some (.ref fI2)))
    (tB2 : PySem.W.typeIn K (.ref fI2) = some (.type "function"))
    (ve2 : PySem.W.subIn K (.ref C2) (.type "ValueError") = some true)
    (mr2 : PySem.W.mroIn K C2 (.ref C2) = some true)
    (sp2 : PySem.W.ks_superIn K C2 C2 "__init__" = some (some (.builtin "ValueError.__init__")))
    (lB2 : K.lookup fI2 = some ⟨ocB2, odB2, .func (PySem.W.ksFn "__init__" "NoName.__init__" (FsBname.eA b2_1 b2_2) (FsBname.eB (FsBname.eM zM2 q2_0) r2_0 r2_1 r2_2 r2_3 r2_4 r2_5 r2_6 r2_7 r2_8) FsBname.eS .none kVB2 dcB2 pmB2 anB2 (.ref cda2) ctB2 cc2), slB2⟩)
    (cB2 : PySem.W.codeIn K (.ref cda2) "NoName.__init__" = true)
    (oB2 : K.lookup cda2 = some ⟨ccl2, cdd2, .fields vsB2, ccs2⟩)
    (vB2 : vsB2[2]? = some (.str fileB2 tfB2))
    (fB2 : ((P.main.file : Str) == fileB2) = true)
    (ce2 : K.lookup cc2 = some ⟨clB2, cld2, .cell (some (.ref C2)), csl2⟩)
    (ln2 : (r2_2.endLine == r2_3.line) = true)
    (zM2l : zM2.length ≤ 1000)
    (gn3 : PySem.W.nsIn K mainGlobals "WrongCount" = some (some (.ref C3)))
    (x3 : K.lookup C3 = some (excClassObj nm3 q3 C3 N3 bs3 [.ref cS, .type "ValueError", .type "Exception", .type "BaseException", .type "object"] true sn3 sub3 ab3 col3 dd3 m3_0 m3_1 m3_2 m3_3 m3_5 "ValueError.__new__"))
    (ga3 : PySem.W.findIn K (.ref C3) "__getattribute__" = some (some (.builtin "BaseException.__getattribute__")))
    (gg3 : PySem.W.findIn K (.ref C3) "__getattr__" = some none)
    (ex3 : PySem.W.subIn K (.ref C3) (.type "BaseException") = some true)
    (hd3 : PySem.W.hasDictIn K C3 = true)
    (ha3 : PySem.W.findIn K (.ref C3) "__class__" = some (some (.builtin "object.__class__")))
    (hm3 : PySem.W.mroIn K C3 (.type "object") = some true)
    (ty3 : PySem.W.typeIn K (.ref C3) = some (.type "type"))
    (kp3 : PySem.W.keepIn K (.ref C3) = true)
    (ei3 : PySem.W.excInitIn K C3 [.type "ValueError", .type "Exception", .type "BaseException", .type "object"] "ValueError.__new__" = true)
    (sa3 : PySem.W.findIn K (.ref C3) "__setattr__" = some (some (.builtin "object.__setattr__")))
    (no3 : PySem.W.findIn K (.ref C3) "name" = some none)
    (iB3 : PySem.W.findIn K (.ref C3) "__init__" = some (some (.ref fI3)))
    (tB3 : PySem.W.typeIn K (.ref fI3) = some (.type "function"))
    (ve3 : PySem.W.subIn K (.ref C3) (.type "ValueError") = some true)
    (mr3 : PySem.W.mroIn K C3 (.ref C3) = some true)
    (sp3 : PySem.W.ks_superIn K C3 C3 "__init__" = some (some (.builtin "ValueError.__init__")))
    (lB3 : K.lookup fI3 = some ⟨ocB3, odB3, .func (PySem.W.ksFn "__init__" "WrongCount.__init__" (FsBname.eA b3_1 b3_2) (FsBname.eB (FsBname.eM zM3 q3_0) r3_0 r3_1 r3_2 r3_3 r3_4 r3_5 r3_6 r3_7 r3_8) FsBname.eS .none kVB3 dcB3 pmB3 anB3 (.ref cda3) ctB3 cc3), slB3⟩)
    (cB3 : PySem.W.codeIn K (.ref cda3) "WrongCount.__init__" = true)
    (oB3 : K.lookup cda3 = some ⟨ccl3, cdd3, .fields vsB3, ccs3⟩)
    (vB3 : vsB3[2]? = some (.str fileB3 tfB3))
    (fB3 : ((P.main.file : Str) == fileB3) = true)
    (ce3 : K.lookup cc3 = some ⟨clB3, cld3, .cell (some (.ref C3)), csl3⟩)
    (ln3 : (r3_2.endLine == r3_3.line) = true)
    (zM3l : zM3.length ≤ 1000)
    (gn4 : PySem.W.nsIn K mainGlobals "Endless" = some (some (.ref C4)))
    (x4 : K.lookup C4 = some (excClassObj nm4 q4 C4 N4 bs4 [.ref cS, .type "ValueError", .type "Exception", .type "BaseException", .type "object"] true sn4 sub4 ab4 col4 dd4 m4_0 m4_1 m4_2 m4_3 m4_5 "ValueError.__new__"))
    (ga4 : PySem.W.findIn K (.ref C4) "__getattribute__" = some (some (.builtin "BaseException.__getattribute__")))
    (gg4 : PySem.W.findIn K (.ref C4) "__getattr__" = some none)
    (ex4 : PySem.W.subIn K (.ref C4) (.type "BaseException") = some true)
    (hd4 : PySem.W.hasDictIn K C4 = true)
    (ha4 : PySem.W.findIn K (.ref C4) "__class__" = some (some (.builtin "object.__class__")))
    (hm4 : PySem.W.mroIn K C4 (.type "object") = some true)
    (ty4 : PySem.W.typeIn K (.ref C4) = some (.type "type"))
    (kp4 : PySem.W.keepIn K (.ref C4) = true)
    (ei4 : PySem.W.excInitIn K C4 [.type "ValueError", .type "Exception", .type "BaseException", .type "object"] "ValueError.__new__" = true)
    (sa4 : PySem.W.findIn K (.ref C4) "__setattr__" = some (some (.builtin "object.__setattr__")))
    (no4 : PySem.W.findIn K (.ref C4) "name" = some none)
    (iB4 : PySem.W.findIn K (.ref C4) "__init__" = some (some (.ref fI4)))
    (tB4 : PySem.W.typeIn K (.ref fI4) = some (.type "function"))
    (ve4 : PySem.W.subIn K (.ref C4) (.type "ValueError") = some true)
    (mr4 : PySem.W.mroIn K C4 (.ref C4) = some true)
    (sp4 : PySem.W.ks_superIn K C4 C4 "__init__" = some (some (.builtin "ValueError.__init__")))
    (lB4 : K.lookup fI4 = some ⟨ocB4, odB4, .func (PySem.W.ksFn "__init__" "Endless.__init__" (FsBname.eA b4_1 b4_2) (FsBname.eB (FsBname.eM zM4 q4_0) r4_0 r4_1 r4_2 r4_3 r4_4 r4_5 r4_6 r4_7 r4_8) FsBname.eS .none kVB4 dcB4 pmB4 anB4 (.ref cda4) ctB4 cc4), slB4⟩)
    (cB4 : PySem.W.codeIn K (.ref cda4) "Endless.__init__" = true)
    (oB4 : K.lookup cda4 = some ⟨ccl4, cdd4, .fields vsB4, ccs4⟩)
    (vB4 : vsB4[2]? = some (.str fileB4 tfB4))
    (fB4 : ((P.main.file : Str) == fileB4) = true)
    (ce4 : K.lookup cc4 = some ⟨clB4, cld4, .cell (some (.ref C4)), csl4⟩)
    (ln4 : (r4_2.endLine == r4_3.line) = true)
    (zM4l : zM4.length ≤ 1000)
    (gn5 : PySem.W.nsIn K mainGlobals "Clash" = some (some (.ref C5)))
    (x5 : K.lookup C5 = some (excClassObj nm5 q5 C5 N5 bs5 [.ref cS, .type "ValueError", .type "Exception", .type "BaseException", .type "object"] true sn5 sub5 ab5 col5 dd5 m5_0 m5_1 m5_2 m5_3 m5_5 "ValueError.__new__"))
    (ga5 : PySem.W.findIn K (.ref C5) "__getattribute__" = some (some (.builtin "BaseException.__getattribute__")))
    (gg5 : PySem.W.findIn K (.ref C5) "__getattr__" = some none)
    (ex5 : PySem.W.subIn K (.ref C5) (.type "BaseException") = some true)
    (hd5 : PySem.W.hasDictIn K C5 = true)
    (ha5 : PySem.W.findIn K (.ref C5) "__class__" = some (some (.builtin "object.__class__")))
    (hm5 : PySem.W.mroIn K C5 (.type "object") = some true)
    (ty5 : PySem.W.typeIn K (.ref C5) = some (.type "type"))
    (kp5 : PySem.W.keepIn K (.ref C5) = true)
    (ei5 : PySem.W.excInitIn K C5 [.type "ValueError", .type "Exception", .type "BaseException", .type "object"] "ValueError.__new__" = true)
    (sa5 : PySem.W.findIn K (.ref C5) "__setattr__" = some (some (.builtin "object.__setattr__")))
    (no5 : PySem.W.findIn K (.ref C5) "name" = some none)
    (iB5 : PySem.W.findIn K (.ref C5) "__init__" = some (some (.ref fI5)))
    (tB5 : PySem.W.typeIn K (.ref fI5) = some (.type "function"))
    (ve5 : PySem.W.subIn K (.ref C5) (.type "ValueError") = some true)
    (mr5 : PySem.W.mroIn K C5 (.ref C5) = some true)
    (sp5 : PySem.W.ks_superIn K C5 C5 "__init__" = some (some (.builtin "ValueError.__init__")))
    (lB5 : K.lookup fI5 = some ⟨ocB5, odB5, .func (PySem.W.ksFn "__init__" "Clash.__init__" (FsBname.eA b5_1 b5_2) (FsBname.eB (FsBname.eM zM5 q5_0) r5_0 r5_1 r5_2 r5_3 r5_4 r5_5 r5_6 r5_7 r5_8) FsBname.eS .none kVB5 dcB5 pmB5 anB5 (.ref cda5) ctB5 cc5), slB5⟩)
    (cB5 : PySem.W.codeIn K (.ref cda5) "Clash.__init__" = true)
    (oB5 : K.lookup cda5 = some ⟨ccl5, cdd5, .fields vsB5, ccs5⟩)
    (vB5 : vsB5[2]? = some (.str fileB5 tfB5))
    (fB5 : ((P.main.file : Str) == fileB5) = true)
    (ce5 : K.lookup cc5 = some ⟨clB5, cld5, .cell (some (.ref C5)), csl5⟩)
    (ln5 : (r5_2.endLine == r5_3.line) = true)
    (zM5l : zM5.length ≤ 1000)
    (gn6 : PySem.W.nsIn K mainGlobals "NoMachine" = some (some (.ref C6)))
    (x6 : K.lookup C6 = some (excClassObj nm6 q6 C6 N6 bs6 [.ref cS, .type "ValueError", .type "Exception", .type "BaseException", .type "object"] true sn6 sub6 ab6 col6 dd6 m6_0 m6_1 m6_2 m6_3 m6_5 "ValueError.__new__"))
    (ga6 : PySem.W.findIn K (.ref C6) "__getattribute__" = some (some (.builtin "BaseException.__getattribute__")))
    (gg6 : PySem.W.findIn K (.ref C6) "__getattr__" = some none)
    (ex6 : PySem.W.subIn K (.ref C6) (.type "BaseException") = some true)
    (hd6 : PySem.W.hasDictIn K C6 = true)
    (ha6 : PySem.W.findIn K (.ref C6) "__class__" = some (some (.builtin "object.__class__")))
    (hm6 : PySem.W.mroIn K C6 (.type "object") = some true)
    (ty6 : PySem.W.typeIn K (.ref C6) = some (.type "type"))
    (kp6 : PySem.W.keepIn K (.ref C6) = true)
    (ei6 : PySem.W.excInitIn K C6 [.type "ValueError", .type "Exception", .type "BaseException", .type "object"] "ValueError.__new__" = true)
    (sa6 : PySem.W.findIn K (.ref C6) "__setattr__" = some (some (.builtin "object.__setattr__")))
    (no6 : PySem.W.findIn K (.ref C6) "machine" = some none)
    (iB6 : PySem.W.findIn K (.ref C6) "__init__" = some (some (.ref fI6)))
    (tB6 : PySem.W.typeIn K (.ref fI6) = some (.type "function"))
    (ve6 : PySem.W.subIn K (.ref C6) (.type "ValueError") = some true)
    (mr6 : PySem.W.mroIn K C6 (.ref C6) = some true)
    (sp6 : PySem.W.ks_superIn K C6 C6 "__init__" = some (some (.builtin "ValueError.__init__")))
    (lB6 : K.lookup fI6 = some ⟨ocB6, odB6, .func (PySem.W.ksFn "__init__" "NoMachine.__init__" (FsBmachine.eA b6_1 b6_2) (FsBmachine.eB (FsBmachine.eM zM6 q6_0) r6_0 r6_1 r6_2 r6_3 r6_4 r6_5 r6_6 r6_7 r6_8) FsBmachine.eS .none kVB6 dcB6 pmB6 anB6 (.ref cda6) ctB6 cc6), slB6⟩)
    (cB6 : PySem.W.codeIn K (.ref cda6) "NoMachine.__init__" = true)
    (oB6 : K.lookup cda6 = some ⟨ccl6, cdd6, .fields vsB6, ccs6⟩)
    (vB6 : vsB6[2]? = some (.str fileB6 tfB6))
    (fB6 : ((P.main.file : Str) == fileB6) = true)
    (ce6 : K.lookup cc6 = some ⟨clB6, cld6, .cell (some (.ref C6)), csl6⟩)
    (ln6 : (r6_2.endLine == r6_3.line) = true)
    (zM6l : zM6.length ≤ 1000)
    (gn7 : PySem.W.nsIn K mainGlobals "NoSeating" = some (some (.ref C7)))
    (x7 : K.lookup C7 = some (excClassObj nm7 q7 C7 N7 bs7 [.ref cS, .type "ValueError", .type "Exception", .type "BaseException", .type "object"] true sn7 sub7 ab7 col7 dd7 m7_0 m7_1 m7_2 m7_3 m7_5 "ValueError.__new__"))
    (ga7 : PySem.W.findIn K (.ref C7) "__getattribute__" = some (some (.builtin "BaseException.__getattribute__")))
    (gg7 : PySem.W.findIn K (.ref C7) "__getattr__" = some none)
    (ex7 : PySem.W.subIn K (.ref C7) (.type "BaseException") = some true)
    (hd7 : PySem.W.hasDictIn K C7 = true)
    (ha7 : PySem.W.findIn K (.ref C7) "__class__" = some (some (.builtin "object.__class__")))
    (hm7 : PySem.W.mroIn K C7 (.type "object") = some true)
    (ty7 : PySem.W.typeIn K (.ref C7) = some (.type "type"))
    (kp7 : PySem.W.keepIn K (.ref C7) = true)
    (ei7 : PySem.W.excInitIn K C7 [.type "ValueError", .type "Exception", .type "BaseException", .type "object"] "ValueError.__new__" = true)
    (sa7 : PySem.W.findIn K (.ref C7) "__setattr__" = some (some (.builtin "object.__setattr__")))
    (no7 : PySem.W.findIn K (.ref C7) "channel" = some none)
    (iB7 : PySem.W.findIn K (.ref C7) "__init__" = some (some (.ref fI7)))
    (tB7 : PySem.W.typeIn K (.ref fI7) = some (.type "function"))
    (ve7 : PySem.W.subIn K (.ref C7) (.type "ValueError") = some true)
    (mr7 : PySem.W.mroIn K C7 (.ref C7) = some true)
    (sp7 : PySem.W.ks_superIn K C7 C7 "__init__" = some (some (.builtin "ValueError.__init__")))
    (lB7 : K.lookup fI7 = some ⟨ocB7, odB7, .func (PySem.W.ksFn "__init__" "NoSeating.__init__" (FsBchannel.eA b7_1 b7_2) (FsBchannel.eB (FsBchannel.eM zM7 q7_0) r7_0 r7_1 r7_2 r7_3 r7_4 r7_5 r7_6 r7_7 r7_8) FsBchannel.eS .none kVB7 dcB7 pmB7 anB7 (.ref cda7) ctB7 cc7), slB7⟩)
    (cB7 : PySem.W.codeIn K (.ref cda7) "NoSeating.__init__" = true)
    (oB7 : K.lookup cda7 = some ⟨ccl7, cdd7, .fields vsB7, ccs7⟩)
    (vB7 : vsB7[2]? = some (.str fileB7 tfB7))
    (fB7 : ((P.main.file : Str) == fileB7) = true)
    (ce7 : K.lookup cc7 = some ⟨clB7, cld7, .cell (some (.ref C7)), csl7⟩)
    (ln7 : (r7_2.endLine == r7_3.line) = true)
    (zM7l : zM7.length ≤ 1000)
    (gn8 : PySem.W.nsIn K mainGlobals "NoMeeting" = some (some (.ref C8)))
    (x8 : K.lookup C8 = some (excClassObj nm8 q8 C8 N8 bs8 [.ref cS, .type "ValueError", .type "Exception", .type "BaseException", .type "object"] true sn8 sub8 ab8 col8 dd8 m8_0 m8_1 m8_2 m8_3 m8_5 "ValueError.__new__"))
    (ga8 : PySem.W.findIn K (.ref C8) "__getattribute__" = some (some (.builtin "BaseException.__getattribute__")))
    (gg8 : PySem.W.findIn K (.ref C8) "__getattr__" = some none)
    (ex8 : PySem.W.subIn K (.ref C8) (.type "BaseException") = some true)
    (hd8 : PySem.W.hasDictIn K C8 = true)
    (ha8 : PySem.W.findIn K (.ref C8) "__class__" = some (some (.builtin "object.__class__")))
    (hm8 : PySem.W.mroIn K C8 (.type "object") = some true)
    (ty8 : PySem.W.typeIn K (.ref C8) = some (.type "type"))
    (kp8 : PySem.W.keepIn K (.ref C8) = true)
    (ei8 : PySem.W.excInitIn K C8 [.type "ValueError", .type "Exception", .type "BaseException", .type "object"] "ValueError.__new__" = true)
    (sa8 : PySem.W.findIn K (.ref C8) "__setattr__" = some (some (.builtin "object.__setattr__")))
    (no8 : PySem.W.findIn K (.ref C8) "place" = some none)
    (iB8 : PySem.W.findIn K (.ref C8) "__init__" = some (some (.ref fI8)))
    (tB8 : PySem.W.typeIn K (.ref fI8) = some (.type "function"))
    (ve8 : PySem.W.subIn K (.ref C8) (.type "ValueError") = some true)
    (mr8 : PySem.W.mroIn K C8 (.ref C8) = some true)
    (sp8 : PySem.W.ks_superIn K C8 C8 "__init__" = some (some (.builtin "ValueError.__init__")))
    (lB8 : K.lookup fI8 = some ⟨ocB8, odB8, .func (PySem.W.ksFn "__init__" "NoMeeting.__init__" (FsBplace.eA b8_1 b8_2) (FsBplace.eB (FsBplace.eM zM8 q8_0) r8_0 r8_1 r8_2 r8_3 r8_4 r8_5 r8_6 r8_7 r8_8) FsBplace.eS .none kVB8 dcB8 pmB8 anB8 (.ref cda8) ctB8 cc8), slB8⟩)
    (cB8 : PySem.W.codeIn K (.ref cda8) "NoMeeting.__init__" = true)
    (oB8 : K.lookup cda8 = some ⟨ccl8, cdd8, .fields vsB8, ccs8⟩)
    (vB8 : vsB8[2]? = some (.str fileB8 tfB8))
    (fB8 : ((P.main.file : Str) == fileB8) = true)
    (ce8 : K.lookup cc8 = some ⟨clB8, cld8, .cell (some (.ref C8)), csl8⟩)
    (ln8 : (r8_2.endLine == r8_3.line) = true)
    (zM8l : zM8.length ≤ 1000)
    (gn9 : PySem.W.nsIn K mainGlobals "Dependent" = some (some (.ref C9)))
    (x9 : K.lookup C9 = some (excClassObj nm9 q9 C9 N9 bs9 [.ref cS, .type "ValueError", .type "Exception", .type "BaseException", .type "object"] true sn9 sub9 ab9 col9 dd9 m9_0 m9_1 m9_2 m9_3 m9_5 "ValueError.__new__"))
    (ga9 : PySem.W.findIn K (.ref C9) "__getattribute__" = some (some (.builtin "BaseException.__getattribute__")))
    (gg9 : PySem.W.findIn K (.ref C9) "__getattr__" = some none)
    (ex9 : PySem.W.subIn K (.ref C9) (.type "BaseException") = some true)
    (hd9 : PySem.W.hasDictIn K C9 = true)
    (ha9 : PySem.W.findIn K (.ref C9) "__class__" = some (some (.builtin "object.__class__")))
    (hm9 : PySem.W.mroIn K C9 (.type "object") = some true)
    (ty9 : PySem.W.typeIn K (.ref C9) = some (.type "type"))
    (kp9 : PySem.W.keepIn K (.ref C9) = true)
    (ei9 : PySem.W.excInitIn K C9 [.type "ValueError", .type "Exception", .type "BaseException", .type "object"] "ValueError.__new__" = true)
    (sa9 : PySem.W.findIn K (.ref C9) "__setattr__" = some (some (.builtin "object.__setattr__")))
    (no9 : PySem.W.findIn K (.ref C9) "place" = some none)
    (iB9 : PySem.W.findIn K (.ref C9) "__init__" = some (some (.ref fI9)))
    (tB9 : PySem.W.typeIn K (.ref fI9) = some (.type "function"))
    (ve9 : PySem.W.subIn K (.ref C9) (.type "ValueError") = some true)
    (mr9 : PySem.W.mroIn K C9 (.ref C9) = some true)
    (sp9 : PySem.W.ks_superIn K C9 C9 "__init__" = some (some (.builtin "ValueError.__init__")))
    (lB9 : K.lookup fI9 = some ⟨ocB9, odB9, .func (PySem.W.ksFn "__init__" "Dependent.__init__" (FsBplace.eA b9_1 b9_2) (FsBplace.eB (FsBplace.eM zM9 q9_0) r9_0 r9_1 r9_2 r9_3 r9_4 r9_5 r9_6 r9_7 r9_8) FsBplace.eS .none kVB9 dcB9 pmB9 anB9 (.ref cda9) ctB9 cc9), slB9⟩)
    (cB9 : PySem.W.codeIn K (.ref cda9) "Dependent.__init__" = true)
    (oB9 : K.lookup cda9 = some ⟨ccl9, cdd9, .fields vsB9, ccs9⟩)
    (vB9 : vsB9[2]? = some (.str fileB9 tfB9))
    (fB9 : ((P.main.file : Str) == fileB9) = true)
    (ce9 : K.lookup cc9 = some ⟨clB9, cld9, .cell (some (.ref C9)), csl9⟩)
    (ln9 : (r9_2.endLine == r9_3.line) = true)
    (zM9l : zM9.length ≤ 1000)
    (gn10 : PySem.W.nsIn K mainGlobals "NoRun" = some (some (.ref C10)))
    (x10 : K.lookup C10 = some (excClassObj nm10 q10 C10 N10 bs10 [.ref cS, .type "ValueError", .type "Exception", .type "BaseException", .type "object"] true sn10 sub10 ab10 col10 dd10 m10_0 m10_1 m10_2 m10_3 m10_5 "ValueError.__new__"))
    (ga10 : PySem.W.findIn K (.ref C10) "__getattribute__" = some (some (.builtin "BaseException.__getattribute__")))
    (gg10 : PySem.W.findIn K (.ref C10) "__getattr__" = some none)
    (ex10 : PySem.W.subIn K (.ref C10) (.type "BaseException") = some true)
    (hd10 : PySem.W.hasDictIn K C10 = true)
    (ha10 : PySem.W.findIn K (.ref C10) "__class__" = some (some (.builtin "object.__class__")))
    (hm10 : PySem.W.mroIn K C10 (.type "object") = some true)
    (ty10 : PySem.W.typeIn K (.ref C10) = some (.type "type"))
    (kp10 : PySem.W.keepIn K (.ref C10) = true)
    (ei10 : PySem.W.excInitIn K C10 [.type "ValueError", .type "Exception", .type "BaseException", .type "object"] "ValueError.__new__" = true)
    (sa10 : PySem.W.findIn K (.ref C10) "__setattr__" = some (some (.builtin "object.__setattr__")))
    (no10 : PySem.W.findIn K (.ref C10) "place" = some none)
    (iB10 : PySem.W.findIn K (.ref C10) "__init__" = some (some (.ref fI10)))
    (tB10 : PySem.W.typeIn K (.ref fI10) = some (.type "function"))
    (ve10 : PySem.W.subIn K (.ref C10) (.type "ValueError") = some true)
    (mr10 : PySem.W.mroIn K C10 (.ref C10) = some true)
    (sp10 : PySem.W.ks_superIn K C10 C10 "__init__" = some (some (.builtin "ValueError.__init__")))
    (lB10 : K.lookup fI10 = some ⟨ocB10, odB10, .func (PySem.W.ksFn "__init__" "NoRun.__init__" (FsBplace.eA b10_1 b10_2) (FsBplace.eB (FsBplace.eM zM10 q10_0) r10_0 r10_1 r10_2 r10_3 r10_4 r10_5 r10_6 r10_7 r10_8) FsBplace.eS .none kVB10 dcB10 pmB10 anB10 (.ref cda10) ctB10 cc10), slB10⟩)
    (cB10 : PySem.W.codeIn K (.ref cda10) "NoRun.__init__" = true)
    (oB10 : K.lookup cda10 = some ⟨ccl10, cdd10, .fields vsB10, ccs10⟩)
    (vB10 : vsB10[2]? = some (.str fileB10 tfB10))
    (fB10 : ((P.main.file : Str) == fileB10) = true)
    (ce10 : K.lookup cc10 = some ⟨clB10, cld10, .cell (some (.ref C10)), csl10⟩)
    (ln10 : (r10_2.endLine == r10_3.line) = true)
    (zM10l : zM10.length ≤ 1000)
    (gn11 : PySem.W.nsIn K mainGlobals "NoJoin" = some (some (.ref C11)))
    (x11 : K.lookup C11 = some (excClassObj nm11 q11 C11 N11 bs11 [.ref cS, .type "ValueError", .type "Exception", .type "BaseException", .type "object"] true sn11 sub11 ab11 col11 dd11 m11_0 m11_1 m11_2 m11_3 m11_5 "ValueError.__new__"))
    (ga11 : PySem.W.findIn K (.ref C11) "__getattribute__" = some (some (.builtin "BaseException.__getattribute__")))
    (gg11 : PySem.W.findIn K (.ref C11) "__getattr__" = some none)
    (ex11 : PySem.W.subIn K (.ref C11) (.type "BaseException") = some true)
    (hd11 : PySem.W.hasDictIn K C11 = true)
    (ha11 : PySem.W.findIn K (.ref C11) "__class__" = some (some (.builtin "object.__class__")))
    (hm11 : PySem.W.mroIn K C11 (.type "object") = some true)
    (ty11 : PySem.W.typeIn K (.ref C11) = some (.type "type"))
    (kp11 : PySem.W.keepIn K (.ref C11) = true)
    (ei11 : PySem.W.excIn K C11 [.type "ValueError", .type "Exception", .type "BaseException", .type "object"] "ValueError.__new__" = true)
    (gn12 : PySem.W.nsIn K mainGlobals "BadMessage" = some (some (.ref C12)))
    (x12 : K.lookup C12 = some (excClassObj nm12 q12 C12 N12 bs12 [.ref cS, .type "ValueError", .type "Exception", .type "BaseException", .type "object"] true sn12 sub12 ab12 col12 dd12 m12_0 m12_1 m12_2 m12_3 m12_5 "ValueError.__new__"))
    (ga12 : PySem.W.findIn K (.ref C12) "__getattribute__" = some (some (.builtin "BaseException.__getattribute__")))
    (gg12 : PySem.W.findIn K (.ref C12) "__getattr__" = some none)
    (ex12 : PySem.W.subIn K (.ref C12) (.type "BaseException") = some true)
    (hd12 : PySem.W.hasDictIn K C12 = true)
    (ha12 : PySem.W.findIn K (.ref C12) "__class__" = some (some (.builtin "object.__class__")))
    (hm12 : PySem.W.mroIn K C12 (.type "object") = some true)
    (ty12 : PySem.W.typeIn K (.ref C12) = some (.type "type"))
    (kp12 : PySem.W.keepIn K (.ref C12) = true)
    (ei12 : PySem.W.excInitIn K C12 [.type "ValueError", .type "Exception", .type "BaseException", .type "object"] "ValueError.__new__" = true)
    (sa12 : PySem.W.findIn K (.ref C12) "__setattr__" = some (some (.builtin "object.__setattr__")))
    (no12 : PySem.W.findIn K (.ref C12) "text" = some none)
    (iB12 : PySem.W.findIn K (.ref C12) "__init__" = some (some (.ref fI12)))
    (tB12 : PySem.W.typeIn K (.ref fI12) = some (.type "function"))
    (ve12 : PySem.W.subIn K (.ref C12) (.type "ValueError") = some true)
    (mr12 : PySem.W.mroIn K C12 (.ref C12) = some true)
    (sp12 : PySem.W.ks_superIn K C12 C12 "__init__" = some (some (.builtin "ValueError.__init__")))
    (lB12 : K.lookup fI12 = some ⟨ocB12, odB12, .func (PySem.W.ksFn "__init__" "BadMessage.__init__" (FsBtext.eA b12_1 b12_2) (FsBtext.eB (FsBtext.eM zM12 q12_0) r12_0 r12_1 r12_2 r12_3 r12_4 r12_5 r12_6 r12_7 r12_8) FsBtext.eS .none kVB12 dcB12 pmB12 anB12 (.ref cda12) ctB12 cc12), slB12⟩)
    (cB12 : PySem.W.codeIn K (.ref cda12) "BadMessage.__init__" = true)
    (oB12 : K.lookup cda12 = some ⟨ccl12, cdd12, .fields vsB12, ccs12⟩)
    (vB12 : vsB12[2]? = some (.str fileB12 tfB12))
    (fB12 : ((P.main.file : Str) == fileB12) = true)
    (ce12 : K.lookup cc12 = some ⟨clB12, cld12, .cell (some (.ref C12)), csl12⟩)
    (ln12 : (r12_2.endLine == r12_3.line) = true)
    (zM12l : zM12.length ≤ 1000)
    (gn13 : PySem.W.nsIn K mainGlobals "NoMessage" = some (some (.ref C13)))
    (x13 : K.lookup C13 = some (excClassObj nm13 q13 C13 N13 bs13 [.ref cS, .type "ValueError", .type "Exception", .type "BaseException", .type "object"] true sn13 sub13 ab13 col13 dd13 m13_0 m13_1 m13_2 m13_3 m13_5 "ValueError.__new__"))
    (ga13 : PySem.W.findIn K (.ref C13) "__getattribute__" = some (some (.builtin "BaseException.__getattribute__")))
    (gg13 : PySem.W.findIn K (.ref C13) "__getattr__" = some none)
    (ex13 : PySem.W.subIn K (.ref C13) (.type "BaseException") = some true)
    (hd13 : PySem.W.hasDictIn K C13 = true)
    (ha13 : PySem.W.findIn K (.ref C13) "__class__" = some (some (.builtin "object.__class__")))
    (hm13 : PySem.W.mroIn K C13 (.type "object") = some true)
    (ty13 : PySem.W.typeIn K (.ref C13) = some (.type "type"))
    (kp13 : PySem.W.keepIn K (.ref C13) = true)
    (ei13 : PySem.W.excInitIn K C13 [.type "ValueError", .type "Exception", .type "BaseException", .type "object"] "ValueError.__new__" = true)
    (sa13 : PySem.W.findIn K (.ref C13) "__setattr__" = some (some (.builtin "object.__setattr__")))
    (no13 : PySem.W.findIn K (.ref C13) "place" = some none)
    (iB13 : PySem.W.findIn K (.ref C13) "__init__" = some (some (.ref fI13)))
    (tB13 : PySem.W.typeIn K (.ref fI13) = some (.type "function"))
    (ve13 : PySem.W.subIn K (.ref C13) (.type "ValueError") = some true)
    (mr13 : PySem.W.mroIn K C13 (.ref C13) = some true)
    (sp13 : PySem.W.ks_superIn K C13 C13 "__init__" = some (some (.builtin "ValueError.__init__")))
    (lB13 : K.lookup fI13 = some ⟨ocB13, odB13, .func (PySem.W.ksFn "__init__" "NoMessage.__init__" (FsBplace.eA b13_1 b13_2) (FsBplace.eB (FsBplace.eM zM13 q13_0) r13_0 r13_1 r13_2 r13_3 r13_4 r13_5 r13_6 r13_7 r13_8) FsBplace.eS .none kVB13 dcB13 pmB13 anB13 (.ref cda13) ctB13 cc13), slB13⟩)
    (cB13 : PySem.W.codeIn K (.ref cda13) "NoMessage.__init__" = true)
    (oB13 : K.lookup cda13 = some ⟨ccl13, cdd13, .fields vsB13, ccs13⟩)
    (vB13 : vsB13[2]? = some (.str fileB13 tfB13))
    (fB13 : ((P.main.file : Str) == fileB13) = true)
    (ce13 : K.lookup cc13 = some ⟨clB13, cld13, .cell (some (.ref C13)), csl13⟩)
    (ln13 : (r13_2.endLine == r13_3.line) = true)
    (zM13l : zM13.length ≤ 1000)
    (gn14 : PySem.W.nsIn K mainGlobals "NetworkFull" = some (some (.ref C14)))
    (x14 : K.lookup C14 = some (excClassObj nm14 q14 C14 N14 bs14 [.ref cS, .type "ValueError", .type "Exception", .type "BaseException", .type "object"] true sn14 sub14 ab14 col14 dd14 m14_0 m14_1 m14_2 m14_3 m14_5 "ValueError.__new__"))
    (ga14 : PySem.W.findIn K (.ref C14) "__getattribute__" = some (some (.builtin "BaseException.__getattribute__")))
    (gg14 : PySem.W.findIn K (.ref C14) "__getattr__" = some none)
    (ex14 : PySem.W.subIn K (.ref C14) (.type "BaseException") = some true)
    (hd14 : PySem.W.hasDictIn K C14 = true)
    (ha14 : PySem.W.findIn K (.ref C14) "__class__" = some (some (.builtin "object.__class__")))
    (hm14 : PySem.W.mroIn K C14 (.type "object") = some true)
    (ty14 : PySem.W.typeIn K (.ref C14) = some (.type "type"))
    (kp14 : PySem.W.keepIn K (.ref C14) = true)
    (ei14 : PySem.W.excInitIn K C14 [.type "ValueError", .type "Exception", .type "BaseException", .type "object"] "ValueError.__new__" = true)
    (sa14 : PySem.W.findIn K (.ref C14) "__setattr__" = some (some (.builtin "object.__setattr__")))
    (no14 : PySem.W.findIn K (.ref C14) "limit" = some none)
    (iB14 : PySem.W.findIn K (.ref C14) "__init__" = some (some (.ref fI14)))
    (tB14 : PySem.W.typeIn K (.ref fI14) = some (.type "function"))
    (ve14 : PySem.W.subIn K (.ref C14) (.type "ValueError") = some true)
    (mr14 : PySem.W.mroIn K C14 (.ref C14) = some true)
    (sp14 : PySem.W.ks_superIn K C14 C14 "__init__" = some (some (.builtin "ValueError.__init__")))
    (lB14 : K.lookup fI14 = some ⟨ocB14, odB14, .func (PySem.W.ksFn "__init__" "NetworkFull.__init__" (FsBlimit.eA b14_1 b14_2) (FsBlimit.eB (FsBlimit.eM zM14 q14_0) r14_0 r14_1 r14_2 r14_3 r14_4 r14_5 r14_6 r14_7 r14_8) FsBlimit.eS .none kVB14 dcB14 pmB14 anB14 (.ref cda14) ctB14 cc14), slB14⟩)
    (cB14 : PySem.W.codeIn K (.ref cda14) "NetworkFull.__init__" = true)
    (oB14 : K.lookup cda14 = some ⟨ccl14, cdd14, .fields vsB14, ccs14⟩)
    (vB14 : vsB14[2]? = some (.str fileB14 tfB14))
    (fB14 : ((P.main.file : Str) == fileB14) = true)
    (ce14 : K.lookup cc14 = some ⟨clB14, cld14, .cell (some (.ref C14)), csl14⟩)
    (ln14 : (r14_2.endLine == r14_3.line) = true)
    (zM14l : zM14.length ≤ 1000)
    (gn15 : PySem.W.nsIn K mainGlobals "BadSetting" = some (some (.ref C15)))
    (x15 : K.lookup C15 = some (excClassObj nm15 q15 C15 N15 bs15 [.ref cS, .type "ValueError", .type "Exception", .type "BaseException", .type "object"] true sn15 sub15 ab15 col15 dd15 m15_0 m15_1 m15_2 m15_3 m15_5 "ValueError.__new__"))
    (ga15 : PySem.W.findIn K (.ref C15) "__getattribute__" = some (some (.builtin "BaseException.__getattribute__")))
    (gg15 : PySem.W.findIn K (.ref C15) "__getattr__" = some none)
    (ex15 : PySem.W.subIn K (.ref C15) (.type "BaseException") = some true)
    (hd15 : PySem.W.hasDictIn K C15 = true)
    (ha15 : PySem.W.findIn K (.ref C15) "__class__" = some (some (.builtin "object.__class__")))
    (hm15 : PySem.W.mroIn K C15 (.type "object") = some true)
    (ty15 : PySem.W.typeIn K (.ref C15) = some (.type "type"))
    (kp15 : PySem.W.keepIn K (.ref C15) = true)
    (ei15 : PySem.W.excInitIn K C15 [.type "ValueError", .type "Exception", .type "BaseException", .type "object"] "ValueError.__new__" = true)
    (sa15 : PySem.W.findIn K (.ref C15) "__setattr__" = some (some (.builtin "object.__setattr__")))
    (no15 : PySem.W.findIn K (.ref C15) "value" = some none)
    (iB15 : PySem.W.findIn K (.ref C15) "__init__" = some (some (.ref fI15)))
    (tB15 : PySem.W.typeIn K (.ref fI15) = some (.type "function"))
    (ve15 : PySem.W.subIn K (.ref C15) (.type "ValueError") = some true)
    (mr15 : PySem.W.mroIn K C15 (.ref C15) = some true)
    (sp15 : PySem.W.ks_superIn K C15 C15 "__init__" = some (some (.builtin "ValueError.__init__")))
    (lB15 : K.lookup fI15 = some ⟨ocB15, odB15, .func (PySem.W.ksFn "__init__" "BadSetting.__init__" (FsBvalue.eA b15_1 b15_2) (FsBvalue.eB (FsBvalue.eM zM15 q15_0) r15_0 r15_1 r15_2 r15_3 r15_4 r15_5 r15_6 r15_7 r15_8) FsBvalue.eS .none kVB15 dcB15 pmB15 anB15 (.ref cda15) ctB15 cc15), slB15⟩)
    (cB15 : PySem.W.codeIn K (.ref cda15) "BadSetting.__init__" = true)
    (oB15 : K.lookup cda15 = some ⟨ccl15, cdd15, .fields vsB15, ccs15⟩)
    (vB15 : vsB15[2]? = some (.str fileB15 tfB15))
    (fB15 : ((P.main.file : Str) == fileB15) = true)
    (ce15 : K.lookup cc15 = some ⟨clB15, cld15, .cell (some (.ref C15)), csl15⟩)
    (ln15 : (r15_2.endLine == r15_3.line) = true)
    (zM15l : zM15.length ≤ 1000)
    (gn16 : PySem.W.nsIn K mainGlobals "AlreadyDriven" = some (some (.ref C16)))
    (x16 : K.lookup C16 = some (excClassObj nm16 q16 C16 N16 bs16 [.ref cS, .type "ValueError", .type "Exception", .type "BaseException", .type "object"] true sn16 sub16 ab16 col16 dd16 m16_0 m16_1 m16_2 m16_3 m16_5 "ValueError.__new__"))
    (ga16 : PySem.W.findIn K (.ref C16) "__getattribute__" = some (some (.builtin "BaseException.__getattribute__")))
    (gg16 : PySem.W.findIn K (.ref C16) "__getattr__" = some none)
    (ex16 : PySem.W.subIn K (.ref C16) (.type "BaseException") = some true)
    (hd16 : PySem.W.hasDictIn K C16 = true)
    (ha16 : PySem.W.findIn K (.ref C16) "__class__" = some (some (.builtin "object.__class__")))
    (hm16 : PySem.W.mroIn K C16 (.type "object") = some true)
    (ty16 : PySem.W.typeIn K (.ref C16) = some (.type "type"))
    (kp16 : PySem.W.keepIn K (.ref C16) = true)
    (ei16 : PySem.W.excIn K C16 [.type "ValueError", .type "Exception", .type "BaseException", .type "object"] "ValueError.__new__" = true)
    (gn17 : PySem.W.nsIn K mainGlobals "NotDone" = some (some (.ref C17)))
    (x17 : K.lookup C17 = some (excClassObj nm17 q17 C17 N17 bs17 [.ref cS, .type "ValueError", .type "Exception", .type "BaseException", .type "object"] true sn17 sub17 ab17 col17 dd17 m17_0 m17_1 m17_2 m17_3 m17_5 "ValueError.__new__"))
    (ga17 : PySem.W.findIn K (.ref C17) "__getattribute__" = some (some (.builtin "BaseException.__getattribute__")))
    (gg17 : PySem.W.findIn K (.ref C17) "__getattr__" = some none)
    (ex17 : PySem.W.subIn K (.ref C17) (.type "BaseException") = some true)
    (hd17 : PySem.W.hasDictIn K C17 = true)
    (ha17 : PySem.W.findIn K (.ref C17) "__class__" = some (some (.builtin "object.__class__")))
    (hm17 : PySem.W.mroIn K C17 (.type "object") = some true)
    (ty17 : PySem.W.typeIn K (.ref C17) = some (.type "type"))
    (kp17 : PySem.W.keepIn K (.ref C17) = true)
    (ei17 : PySem.W.excInitIn K C17 [.type "ValueError", .type "Exception", .type "BaseException", .type "object"] "ValueError.__new__" = true)
    (sa17 : PySem.W.findIn K (.ref C17) "__setattr__" = some (some (.builtin "object.__setattr__")))
    (no17 : PySem.W.findIn K (.ref C17) "place" = some none)
    (iB17 : PySem.W.findIn K (.ref C17) "__init__" = some (some (.ref fI17)))
    (tB17 : PySem.W.typeIn K (.ref fI17) = some (.type "function"))
    (ve17 : PySem.W.subIn K (.ref C17) (.type "ValueError") = some true)
    (mr17 : PySem.W.mroIn K C17 (.ref C17) = some true)
    (sp17 : PySem.W.ks_superIn K C17 C17 "__init__" = some (some (.builtin "ValueError.__init__")))
    (lB17 : K.lookup fI17 = some ⟨ocB17, odB17, .func (PySem.W.ksFn "__init__" "NotDone.__init__" (FsBplace.eA b17_1 b17_2) (FsBplace.eB (FsBplace.eM zM17 q17_0) r17_0 r17_1 r17_2 r17_3 r17_4 r17_5 r17_6 r17_7 r17_8) FsBplace.eS .none kVB17 dcB17 pmB17 anB17 (.ref cda17) ctB17 cc17), slB17⟩)
    (cB17 : PySem.W.codeIn K (.ref cda17) "NotDone.__init__" = true)
    (oB17 : K.lookup cda17 = some ⟨ccl17, cdd17, .fields vsB17, ccs17⟩)
    (vB17 : vsB17[2]? = some (.str fileB17 tfB17))
    (fB17 : ((P.main.file : Str) == fileB17) = true)
    (ce17 : K.lookup cc17 = some ⟨clB17, cld17, .cell (some (.ref C17)), csl17⟩)
    (ln17 : (r17_2.endLine == r17_3.line) = true)
    (zM17l : zM17.length ≤ 1000)
    (gn18 : PySem.W.nsIn K mainGlobals "NothingToUndo" = some (some (.ref C18)))
    (x18 : K.lookup C18 = some (excClassObj nm18 q18 C18 N18 bs18 [.ref cS, .type "ValueError", .type "Exception", .type "BaseException", .type "object"] true sn18 sub18 ab18 col18 dd18 m18_0 m18_1 m18_2 m18_3 m18_5 "ValueError.__new__"))
    (ga18 : PySem.W.findIn K (.ref C18) "__getattribute__" = some (some (.builtin "BaseException.__getattribute__")))
    (gg18 : PySem.W.findIn K (.ref C18) "__getattr__" = some none)
    (ex18 : PySem.W.subIn K (.ref C18) (.type "BaseException") = some true)
    (hd18 : PySem.W.hasDictIn K C18 = true)
    (ha18 : PySem.W.findIn K (.ref C18) "__class__" = some (some (.builtin "object.__class__")))
    (hm18 : PySem.W.mroIn K C18 (.type "object") = some true)
    (ty18 : PySem.W.typeIn K (.ref C18) = some (.type "type"))
    (kp18 : PySem.W.keepIn K (.ref C18) = true)
    (ei18 : PySem.W.excIn K C18 [.type "ValueError", .type "Exception", .type "BaseException", .type "object"] "ValueError.__new__" = true)
    (gn19 : PySem.W.nsIn K mainGlobals "BadCommand" = some (some (.ref C19)))
    (x19 : K.lookup C19 = some (excClassObj nm19 q19 C19 N19 bs19 [.ref cS, .type "ValueError", .type "Exception", .type "BaseException", .type "object"] true sn19 sub19 ab19 col19 dd19 m19_0 m19_1 m19_2 m19_3 m19_5 "ValueError.__new__"))
    (ga19 : PySem.W.findIn K (.ref C19) "__getattribute__" = some (some (.builtin "BaseException.__getattribute__")))
    (gg19 : PySem.W.findIn K (.ref C19) "__getattr__" = some none)
    (ex19 : PySem.W.subIn K (.ref C19) (.type "BaseException") = some true)
    (hd19 : PySem.W.hasDictIn K C19 = true)
    (ha19 : PySem.W.findIn K (.ref C19) "__class__" = some (some (.builtin "object.__class__")))
    (hm19 : PySem.W.mroIn K C19 (.type "object") = some true)
    (ty19 : PySem.W.typeIn K (.ref C19) = some (.type "type"))
    (kp19 : PySem.W.keepIn K (.ref C19) = true)
    (ei19 : PySem.W.excIn K C19 [.type "ValueError", .type "Exception", .type "BaseException", .type "object"] "ValueError.__new__" = true)
    (icS : PySem.W.isClsIn K cS = true)
    (tyS : PySem.W.typeIn K (.ref cS) = some (.type "type"))
    (inj : ∀ i, i < 20 → ∀ j, j < 20 → ([C0, C1, C2, C3, C4, C5, C6, C7, C8, C9, C10, C11, C12, C13, C14, C15, C16, C17, C18, C19] : List Addr).getD i 0 = ([C0, C1, C2, C3, C4, C5, C6, C7, C8, C9, C10, C11, C12, C13, C14, C15, C16, C17, C18, C19] : List Addr).getD j 0 → i = j)
    (nS : ∀ i, i < 20 → ([C0, C1, C2, C3, C4, C5, C6, C7, C8, C9, C10, C11, C12, C13, C14, C15, C16, C17, C18, C19] : List Addr).getD i 0 ≠ cS)
    (z_len : PySem.W.nsIn K mainGlobals "len" = some (none))
    (z_int : PySem.W.nsIn K mainGlobals "int" = some (none))
    (z_abs : PySem.W.nsIn K mainGlobals "abs" = some (none))
    (z_range : PySem.W.nsIn K mainGlobals "range" = some (none))
    (z_isinstance : PySem.W.nsIn K mainGlobals "isinstance" = some (none))
    (z_ValueError : PySem.W.nsIn K mainGlobals "ValueError" = some (none))
    (z_super : PySem.W.nsIn K mainGlobals "super" = some (none)) :
    ∃ fd : FuncData, (∀ (s : Shared) (v : Value), BindsTo s fd ⟨[v], []⟩ [("_law_script", v)]) ∧ ∀ base : Heap, K.In base → base.Ns mainGlobals mg → FnOk P w K mg base CX0 3 fa fd ["_law_script"] (spLaw K) := by
  have e := hfa.symm.trans (PySem.W.mg_of X G alaw)
  cases e
  have L : LawT K mg := { len := PySem.W.mg_none_of X G z_len, int := PySem.W.mg_none_of X G z_int, abs := PySem.W.mg_none_of X G z_abs, range := PySem.W.mg_none_of X G z_range, isi := PySem.W.mg_none_of X G z_isinstance, ve := PySem.W.mg_none_of X G z_ValueError }
  have E0 : ExcC K C0 := ⟨ga0, gg0, ex0, hd0, ha0, hnC, htC, hm0⟩
  have U0 : UpE K cS C0 := ⟨_, by unfold PySem.W.clsIn; rw [x0], rfl⟩
  have T0 : FsBfield.ErrTxt P K mg "BadTerm" C0 fI0 := { gC := PySem.W.mg_of X G gn0, cls := ⟨nm0, q0, N0, bs0, _, sn0, sub0, ab0, col0, dd0, m0_0, m0_1, m0_2, m0_3, m0_5, x0, rfl⟩, ei := ei0, sa := sa0, noN := no0, iC := iB0, tC := tB0, kC := kp0, exC := ex0, veC := ve0, tyC := ty0, slf := mr0, sup := sp0, opq := opq, gs := PySem.W.mg_none_of X G z_super, top := topB, fn := ⟨ocB0, odB0, anB0, kVB0, dcB0, pmB0, ctB0, slB0, _, cda0, cc0, ccl0, clB0, cdd0, cld0, ccs0, csl0, vsB0, fileB0, tfB0, zM0, b0_1, b0_2, q0_0, r0_0, r0_1, r0_2, r0_3, r0_4, r0_5, r0_6, r0_7, r0_8, lB0, cB0, oB0, vB0, fB0, ce0, zM0l, ln0⟩ }
  have E1 : ExcC K C1 := ⟨ga1, gg1, ex1, hd1, ha1, hnC, htC, hm1⟩
  have U1 : UpE K cS C1 := ⟨_, by unfold PySem.W.clsIn; rw [x1], rfl⟩
  have T1 : FsBline.ErrTxt P K mg "BadText" C1 fI1 := { gC := PySem.W.mg_of X G gn1, cls := ⟨nm1, q1, N1, bs1, _, sn1, sub1, ab1, col1, dd1, m1_0, m1_1, m1_2, m1_3, m1_5, x1, rfl⟩, ei := ei1, sa := sa1, noN := no1, iC := iB1, tC := tB1, kC := kp1, exC := ex1, veC := ve1, tyC := ty1, slf := mr1, sup := sp1, opq := opq, gs := PySem.W.mg_none_of X G z_super, top := topB, fn := ⟨ocB1, odB1, anB1, kVB1, dcB1, pmB1, ctB1, slB1, _, cda1, cc1, ccl1, clB1, cdd1, cld1, ccs1, csl1, vsB1, fileB1, tfB1, zM1, b1_1, b1_2, q1_0, r1_0, r1_1, r1_2, r1_3, r1_4, r1_5, r1_6, r1_7, r1_8, lB1, cB1, oB1, vB1, fB1, ce1, zM1l, ln1⟩ }
  have E2 : ExcC K C2 := ⟨ga2, gg2, ex2, hd2, ha2, hnC, htC, hm2⟩
  have U2 : UpE K cS C2 := ⟨_, by unfold PySem.W.clsIn; rw [x2], rfl⟩
  have T2 : FsBname.ErrTxt P K mg "NoName" C2 fI2 := { gC := PySem.W.mg_of X G gn2, cls := ⟨nm2, q2, N2, bs2, _, sn2, sub2, ab2, col2, dd2, m2_0, m2_1, m2_2, m2_3, m2_5, x2, rfl⟩, ei := ei2, sa := sa2, noN := no2, iC := iB2, tC := tB2, kC := kp2, exC := ex2, veC := ve2, tyC := ty2, slf := mr2, sup := sp2, opq := opq, gs := PySem.W.mg_none_of X G z_super, top := topB, fn := ⟨ocB2, odB2, anB2, kVB2, dcB2, pmB2, ctB2, slB2, _, cda2, cc2, ccl2, clB2, cdd2, cld2, ccs2, csl2, vsB2, fileB2, tfB2, zM2, b2_1, b2_2, q2_0, r2_0, r2_1, r2_2, r2_3, r2_4, r2_5, r2_6, r2_7, r2_8, lB2, cB2, oB2, vB2, fB2, ce2, zM2l, ln2⟩ }
  have E3 : ExcC K C3 := ⟨ga3, gg3, ex3, hd3, ha3, hnC, htC, hm3⟩
  have U3 : UpE K cS C3 := ⟨_, by unfold PySem.W.clsIn; rw [x3], rfl⟩
  have T3 : FsBname.ErrTxt P K mg "WrongCount" C3 fI3 := { gC := PySem.W.mg_of X G gn3, cls := ⟨nm3, q3, N3, bs3, _, sn3, sub3, ab3, col3, dd3, m3_0, m3_1, m3_2, m3_3, m3_5, x3, rfl⟩, ei := ei3, sa := sa3, noN := no3, iC := iB3, tC := tB3, kC := kp3, exC := ex3, veC := ve3, tyC := ty3, slf := mr3, sup := sp3, opq := opq, gs := PySem.W.mg_none_of X G z_super, top := topB, fn := ⟨ocB3, odB3, anB3, kVB3, dcB3, pmB3, ctB3, slB3, _, cda3, cc3, ccl3, clB3, cdd3, cld3, ccs3, csl3, vsB3, fileB3, tfB3, zM3, b3_1, b3_2, q3_0, r3_0, r3_1, r3_2, r3_3, r3_4, r3_5, r3_6, r3_7, r3_8, lB3, cB3, oB3, vB3, fB3, ce3, zM3l, ln3⟩ }
  have E4 : ExcC K C4 := ⟨ga4, gg4, ex4, hd4, ha4, hnC, htC, hm4⟩
  have U4 : UpE K cS C4 := ⟨_, by unfold PySem.W.clsIn; rw [x4], rfl⟩
  have T4 : FsBname.ErrTxt P K mg "Endless" C4 fI4 := { gC := PySem.W.mg_of X G gn4, cls := ⟨nm4, q4, N4, bs4, _, sn4, sub4, ab4, col4, dd4, m4_0, m4_1, m4_2, m4_3, m4_5, x4, rfl⟩, ei := ei4, sa := sa4, noN := no4, iC := iB4, tC := tB4, kC := kp4, exC := ex4, veC := ve4, tyC := ty4, slf := mr4, sup := sp4, opq := opq, gs := PySem.W.mg_none_of X G z_super, top := topB, fn := ⟨ocB4, odB4, anB4, kVB4, dcB4, pmB4, ctB4, slB4, _, cda4, cc4, ccl4, clB4, cdd4, cld4, ccs4, csl4, vsB4, fileB4, tfB4, zM4, b4_1, b4_2, q4_0, r4_0, r4_1, r4_2, r4_3, r4_4, r4_5, r4_6, r4_7, r4_8, lB4, cB4, oB4, vB4, fB4, ce4, zM4l, ln4⟩ }
  have E5 : ExcC K C5 := ⟨ga5, gg5, ex5, hd5, ha5, hnC, htC, hm5⟩
  have U5 : UpE K cS C5 := ⟨_, by unfold PySem.W.clsIn; rw [x5], rfl⟩
  have T5 : FsBname.ErrTxt P K mg "Clash" C5 fI5 := { gC := PySem.W.mg_of X G gn5, cls := ⟨nm5, q5, N5, bs5, _, sn5, sub5, ab5, col5, dd5, m5_0, m5_1, m5_2, m5_3, m5_5, x5, rfl⟩, ei := ei5, sa := sa5, noN := no5, iC := iB5, tC := tB5, kC := kp5, exC := ex5, veC := ve5, tyC := ty5, slf := mr5, sup := sp5, opq := opq, gs := PySem.W.mg_none_of X G z_super, top := topB, fn := ⟨ocB5, odB5, anB5, kVB5, dcB5, pmB5, ctB5, slB5, _, cda5, cc5, ccl5, clB5, cdd5, cld5, ccs5, csl5, vsB5, fileB5, tfB5, zM5, b5_1, b5_2, q5_0, r5_0, r5_1, r5_2, r5_3, r5_4, r5_5, r5_6, r5_7, r5_8, lB5, cB5, oB5, vB5, fB5, ce5, zM5l, ln5⟩ }
  have E6 : ExcC K C6 := ⟨ga6, gg6, ex6, hd6, ha6, hnC, htC, hm6⟩
  have U6 : UpE K cS C6 := ⟨_, by unfold PySem.W.clsIn; rw [x6], rfl⟩
  have T6 : FsBmachine.ErrTxt P K mg "NoMachine" C6 fI6 := { gC := PySem.W.mg_of X G gn6, cls := ⟨nm6, q6, N6, bs6, _, sn6, sub6, ab6, col6, dd6, m6_0, m6_1, m6_2, m6_3, m6_5, x6, rfl⟩, ei := ei6, sa := sa6, noN := no6, iC := iB6, tC := tB6, kC := kp6, exC := ex6, veC := ve6, tyC := ty6, slf := mr6, sup := sp6, opq := opq, gs := PySem.W.mg_none_of X G z_super, top := topB, fn := ⟨ocB6, odB6, anB6, kVB6, dcB6, pmB6, ctB6, slB6, _, cda6, cc6, ccl6, clB6, cdd6, cld6, ccs6, csl6, vsB6, fileB6, tfB6, zM6, b6_1, b6_2, q6_0, r6_0, r6_1, r6_2, r6_3, r6_4, r6_5, r6_6, r6_7, r6_8, lB6, cB6, oB6, vB6, fB6, ce6, zM6l, ln6⟩ }
  have E7 : ExcC K C7 := ⟨ga7, gg7, ex7, hd7, ha7, hnC, htC, hm7⟩
  have U7 : UpE K cS C7 := ⟨_, by unfold PySem.W.clsIn; rw [x7], rfl⟩
  have T7 : FsBchannel.ErrTxt P K mg "NoSeating" C7 fI7 := { gC := PySem.W.mg_of X G gn7, cls := ⟨nm7, q7, N7, bs7, _, sn7, sub7, ab7, col7, dd7, m7_0, m7_1, m7_2, m7_3, m7_5, x7, rfl⟩, ei := ei7, sa := sa7, noN := no7, iC := iB7, tC := tB7, kC := kp7, exC := ex7, veC := ve7, tyC := ty7, slf := mr7, sup := sp7, opq := opq, gs := PySem.W.mg_none_of X G z_super, top := topB, fn := ⟨ocB7, odB7, anB7, kVB7, dcB7, pmB7, ctB7, slB7, _, cda7, cc7, ccl7, clB7, cdd7, cld7, ccs7, csl7, vsB7, fileB7, tfB7, zM7, b7_1, b7_2, q7_0, r7_0, r7_1, r7_2, r7_3, r7_4, r7_5, r7_6, r7_7, r7_8, lB7, cB7, oB7, vB7, fB7, ce7, zM7l, ln7⟩ }
  have E8 : ExcC K C8 := ⟨ga8, gg8, ex8, hd8, ha8, hnC, htC, hm8⟩
  have U8 : UpE K cS C8 := ⟨_, by unfold PySem.W.clsIn; rw [x8], rfl⟩
  have T8 : FsBplace.ErrTxt P K mg "NoMeeting" C8 fI8 := { gC := PySem.W.mg_of X G gn8, cls := ⟨nm8, q8, N8, bs8, _, sn8, sub8, ab8, col8, dd8, m8_0, m8_1, m8_2, m8_3, m8_5, x8, rfl⟩, ei := ei8, sa := sa8, noN := no8, iC := iB8, tC := tB8, kC := kp8, exC := ex8, veC := ve8, tyC := ty8, slf := mr8, sup := sp8, opq := opq, gs := PySem.W.mg_none_of X G z_super, top := topB, fn := ⟨ocB8, odB8, anB8, kVB8, dcB8, pmB8, ctB8, slB8, _, cda8, cc8, ccl8, clB8, cdd8, cld8, ccs8, csl8, vsB8, fileB8, tfB8, zM8, b8_1, b8_2, q8_0, r8_0, r8_1, r8_2, r8_3, r8_4, r8_5, r8_6, r8_7, r8_8, lB8, cB8, oB8, vB8, fB8, ce8, zM8l, ln8⟩ }
  have E9 : ExcC K C9 := ⟨ga9, gg9, ex9, hd9, ha9, hnC, htC, hm9⟩
  have U9 : UpE K cS C9 := ⟨_, by unfold PySem.W.clsIn; rw [x9], rfl⟩
  have T9 : FsBplace.ErrTxt P K mg "Dependent" C9 fI9 := { gC := PySem.W.mg_of X G gn9, cls := ⟨nm9, q9, N9, bs9, _, sn9, sub9, ab9, col9, dd9, m9_0, m9_1, m9_2, m9_3, m9_5, x9, rfl⟩, ei := ei9, sa := sa9, noN := no9, iC := iB9, tC := tB9, kC := kp9, exC := ex9, veC := ve9, tyC := ty9, slf := mr9, sup := sp9, opq := opq, gs := PySem.W.mg_none_of X G z_super, top := topB, fn := ⟨ocB9, odB9, anB9, kVB9, dcB9, pmB9, ctB9, slB9, _, cda9, cc9, ccl9, clB9, cdd9, cld9, ccs9, csl9, vsB9, fileB9, tfB9, zM9, b9_1, b9_2, q9_0, r9_0, r9_1, r9_2, r9_3, r9_4, r9_5, r9_6, r9_7, r9_8, lB9, cB9, oB9, vB9, fB9, ce9, zM9l, ln9⟩ }
  have E10 : ExcC K C10 := ⟨ga10, gg10, ex10, hd10, ha10, hnC, htC, hm10⟩
  have U10 : UpE K cS C10 := ⟨_, by unfold PySem.W.clsIn; rw [x10], rfl⟩
  have T10 : FsBplace.ErrTxt P K mg "NoRun" C10 fI10 := { gC := PySem.W.mg_of X G gn10, cls := ⟨nm10, q10, N10, bs10, _, sn10, sub10, ab10, col10, dd10, m10_0, m10_1, m10_2, m10_3, m10_5, x10, rfl⟩, ei := ei10, sa := sa10, noN := no10, iC := iB10, tC := tB10, kC := kp10, exC := ex10, veC := ve10, tyC := ty10, slf := mr10, sup := sp10, opq := opq, gs := PySem.W.mg_none_of X G z_super, top := topB, fn := ⟨ocB10, odB10, anB10, kVB10, dcB10, pmB10, ctB10, slB10, _, cda10, cc10, ccl10, clB10, cdd10, cld10, ccs10, csl10, vsB10, fileB10, tfB10, zM10, b10_1, b10_2, q10_0, r10_0, r10_1, r10_2, r10_3, r10_4, r10_5, r10_6, r10_7, r10_8, lB10, cB10, oB10, vB10, fB10, ce10, zM10l, ln10⟩ }
  have E11 : ExcC K C11 := ⟨ga11, gg11, ex11, hd11, ha11, hnC, htC, hm11⟩
  have U11 : UpE K cS C11 := ⟨_, by unfold PySem.W.clsIn; rw [x11], rfl⟩
  have E12 : ExcC K C12 := ⟨ga12, gg12, ex12, hd12, ha12, hnC, htC, hm12⟩
  have U12 : UpE K cS C12 := ⟨_, by unfold PySem.W.clsIn; rw [x12], rfl⟩
  have T12 : FsBtext.ErrTxt P K mg "BadMessage" C12 fI12 := { gC := PySem.W.mg_of X G gn12, cls := ⟨nm12, q12, N12, bs12, _, sn12, sub12, ab12, col12, dd12, m12_0, m12_1, m12_2, m12_3, m12_5, x12, rfl⟩, ei := ei12, sa := sa12, noN := no12, iC := iB12, tC := tB12, kC := kp12, exC := ex12, veC := ve12, tyC := ty12, slf := mr12, sup := sp12, opq := opq, gs := PySem.W.mg_none_of X G z_super, top := topB, fn := ⟨ocB12, odB12, anB12, kVB12, dcB12, pmB12, ctB12, slB12, _, cda12, cc12, ccl12, clB12, cdd12, cld12, ccs12, csl12, vsB12, fileB12, tfB12, zM12, b12_1, b12_2, q12_0, r12_0, r12_1, r12_2, r12_3, r12_4, r12_5, r12_6, r12_7, r12_8, lB12, cB12, oB12, vB12, fB12, ce12, zM12l, ln12⟩ }
  have E13 : ExcC K C13 := ⟨ga13, gg13, ex13, hd13, ha13, hnC, htC, hm13⟩
  have U13 : UpE K cS C13 := ⟨_, by unfold PySem.W.clsIn; rw [x13], rfl⟩
  have T13 : FsBplace.ErrTxt P K mg "NoMessage" C13 fI13 := { gC := PySem.W.mg_of X G gn13, cls := ⟨nm13, q13, N13, bs13, _, sn13, sub13, ab13, col13, dd13, m13_0, m13_1, m13_2, m13_3, m13_5, x13, rfl⟩, ei := ei13, sa := sa13, noN := no13, iC := iB13, tC := tB13, kC := kp13, exC := ex13, veC := ve13, tyC := ty13, slf := mr13, sup := sp13, opq := opq, gs := PySem.W.mg_none_of X G z_super, top := topB, fn := ⟨ocB13, odB13, anB13, kVB13, dcB13, pmB13, ctB13, slB13, _, cda13, cc13, ccl13, clB13, cdd13, cld13, ccs13, csl13, vsB13, fileB13, tfB13, zM13, b13_1, b13_2, q13_0, r13_0, r13_1, r13_2, r13_3, r13_4, r13_5, r13_6, r13_7, r13_8, lB13, cB13, oB13, vB13, fB13, ce13, zM13l, ln13⟩ }
  have E14 : ExcC K C14 := ⟨ga14, gg14, ex14, hd14, ha14, hnC, htC, hm14⟩
  have U14 : UpE K cS C14 := ⟨_, by unfold PySem.W.clsIn; rw [x14], rfl⟩
  have T14 : FsBlimit.ErrTxt P K mg "NetworkFull" C14 fI14 := { gC := PySem.W.mg_of X G gn14, cls := ⟨nm14, q14, N14, bs14, _, sn14, sub14, ab14, col14, dd14, m14_0, m14_1, m14_2, m14_3, m14_5, x14, rfl⟩, ei := ei14, sa := sa14, noN := no14, iC := iB14, tC := tB14, kC := kp14, exC := ex14, veC := ve14, tyC := ty14, slf := mr14, sup := sp14, opq := opq, gs := PySem.W.mg_none_of X G z_super, top := topB, fn := ⟨ocB14, odB14, anB14, kVB14, dcB14, pmB14, ctB14, slB14, _, cda14, cc14, ccl14, clB14, cdd14, cld14, ccs14, csl14, vsB14, fileB14, tfB14, zM14, b14_1, b14_2, q14_0, r14_0, r14_1, r14_2, r14_3, r14_4, r14_5, r14_6, r14_7, r14_8, lB14, cB14, oB14, vB14, fB14, ce14, zM14l, ln14⟩ }
  have E15 : ExcC K C15 := ⟨ga15, gg15, ex15, hd15, ha15, hnC, htC, hm15⟩
  have U15 : UpE K cS C15 := ⟨_, by unfold PySem.W.clsIn; rw [x15], rfl⟩
  have T15 : FsBvalue.ErrTxt P K mg "BadSetting" C15 fI15 := { gC := PySem.W.mg_of X G gn15, cls := ⟨nm15, q15, N15, bs15, _, sn15, sub15, ab15, col15, dd15, m15_0, m15_1, m15_2, m15_3, m15_5, x15, rfl⟩, ei := ei15, sa := sa15, noN := no15, iC := iB15, tC := tB15, kC := kp15, exC := ex15, veC := ve15, tyC := ty15, slf := mr15, sup := sp15, opq := opq, gs := PySem.W.mg_none_of X G z_super, top := topB, fn := ⟨ocB15, odB15, anB15, kVB15, dcB15, pmB15, ctB15, slB15, _, cda15, cc15, ccl15, clB15, cdd15, cld15, ccs15, csl15, vsB15, fileB15, tfB15, zM15, b15_1, b15_2, q15_0, r15_0, r15_1, r15_2, r15_3, r15_4, r15_5, r15_6, r15_7, r15_8, lB15, cB15, oB15, vB15, fB15, ce15, zM15l, ln15⟩ }
  have E16 : ExcC K C16 := ⟨ga16, gg16, ex16, hd16, ha16, hnC, htC, hm16⟩
  have U16 : UpE K cS C16 := ⟨_, by unfold PySem.W.clsIn; rw [x16], rfl⟩
  have E17 : ExcC K C17 := ⟨ga17, gg17, ex17, hd17, ha17, hnC, htC, hm17⟩
  have U17 : UpE K cS C17 := ⟨_, by unfold PySem.W.clsIn; rw [x17], rfl⟩
  have T17 : FsBplace.ErrTxt P K mg "NotDone" C17 fI17 := { gC := PySem.W.mg_of X G gn17, cls := ⟨nm17, q17, N17, bs17, _, sn17, sub17, ab17, col17, dd17, m17_0, m17_1, m17_2, m17_3, m17_5, x17, rfl⟩, ei := ei17, sa := sa17, noN := no17, iC := iB17, tC := tB17, kC := kp17, exC := ex17, veC := ve17, tyC := ty17, slf := mr17, sup := sp17, opq := opq, gs := PySem.W.mg_none_of X G z_super, top := topB, fn := ⟨ocB17, odB17, anB17, kVB17, dcB17, pmB17, ctB17, slB17, _, cda17, cc17, ccl17, clB17, cdd17, cld17, ccs17, csl17, vsB17, fileB17, tfB17, zM17, b17_1, b17_2, q17_0, r17_0, r17_1, r17_2, r17_3, r17_4, r17_5, r17_6, r17_7, r17_8, lB17, cB17, oB17, vB17, fB17, ce17, zM17l, ln17⟩ }
  have E18 : ExcC K C18 := ⟨ga18, gg18, ex18, hd18, ha18, hnC, htC, hm18⟩
  have U18 : UpE K cS C18 := ⟨_, by unfold PySem.W.clsIn; rw [x18], rfl⟩
  have E19 : ExcC K C19 := ⟨ga19, gg19, ex19, hd19, ha19, hnC, htC, hm19⟩
  have U19 : UpE K cS C19 := ⟨_, by unfold PySem.W.clsIn; rw [x19], rfl⟩
  let C : Nat → Addr := fun i => ([C0, C1, C2, C3, C4, C5, C6, C7, C8, C9, C10, C11, C12, C13, C14, C15, C16, C17, C18, C19] : List Addr).getD i 0
  have EX : ∀ i, i < 20 → ExcC K (C i) := fun i hi => by
    have : i = 0 ∨ i = 1 ∨ i = 2 ∨ i = 3 ∨ i = 4 ∨ i = 5 ∨ i = 6 ∨ i = 7 ∨ i = 8 ∨ i = 9 ∨ i = 10 ∨ i = 11 ∨ i = 12 ∨ i = 13 ∨ i = 14 ∨ i = 15 ∨ i = 16 ∨ i = 17 ∨ i = 18 ∨ i = 19 := by omega
    rcases this with rfl | rfl | rfl | rfl | rfl | rfl | rfl | rfl | rfl | rfl | rfl | rfl | rfl | rfl | rfl | rfl | rfl | rfl | rfl | rfl
    · exact E0
    · exact E1
    · exact E2
    · exact E3
    · exact E4
    · exact E5
    · exact E6
    · exact E7
    · exact E8
    · exact E9
    · exact E10
    · exact E11
    · exact E12
    · exact E13
    · exact E14
    · exact E15
    · exact E16
    · exact E17
    · exact E18
    · exact E19
  have UP : ∀ i, i < 20 → UpE K cS (C i) := fun i hi => by
    have : i = 0 ∨ i = 1 ∨ i = 2 ∨ i = 3 ∨ i = 4 ∨ i = 5 ∨ i = 6 ∨ i = 7 ∨ i = 8 ∨ i = 9 ∨ i = 10 ∨ i = 11 ∨ i = 12 ∨ i = 13 ∨ i = 14 ∨ i = 15 ∨ i = 16 ∨ i = 17 ∨ i = 18 ∨ i = 19 := by omega
    rcases this with rfl | rfl | rfl | rfl | rfl | rfl | rfl | rfl | rfl | rfl | rfl | rfl | rfl | rfl | rfl | rfl | rfl | rfl | rfl | rfl
    · exact U0
    · exact U1
    · exact U2
    · exact U3
    · exact U4
    · exact U5
    · exact U6
    · exact U7
    · exact U8
    · exact U9
    · exact U10
    · exact U11
    · exact U12
    · exact U13
    · exact U14
    · exact U15
    · exact U16
    · exact U17
    · exact U18
    · exact U19
  have TY : ∀ i, i < 20 → PySem.W.typeIn K (.ref (C i)) = some (.type "type") := fun i hi => by
    have : i = 0 ∨ i = 1 ∨ i = 2 ∨ i = 3 ∨ i = 4 ∨ i = 5 ∨ i = 6 ∨ i = 7 ∨ i = 8 ∨ i = 9 ∨ i = 10 ∨ i = 11 ∨ i = 12 ∨ i = 13 ∨ i = 14 ∨ i = 15 ∨ i = 16 ∨ i = 17 ∨ i = 18 ∨ i = 19 := by omega
    rcases this with rfl | rfl | rfl | rfl | rfl | rfl | rfl | rfl | rfl | rfl | rfl | rfl | rfl | rfl | rfl | rfl | rfl | rfl | rfl | rfl
    · exact ty0
    · exact ty1
    · exact ty2
    · exact ty3
    · exact ty4
    · exact ty5
    · exact ty6
    · exact ty7
    · exact ty8
    · exact ty9
    · exact ty10
    · exact ty11
    · exact ty12
    · exact ty13
    · exact ty14
    · exact ty15
    · exact ty16
    · exact ty17
    · exact ty18
    · exact ty19
  have T : KindT K mg C cS := { g0 := PySem.W.mg_of X G gn0, g1 := PySem.W.mg_of X G gn1, g2 := PySem.W.mg_of X G gn2, g3 := PySem.W.mg_of X G gn3, g4 := PySem.W.mg_of X G gn4, g5 := PySem.W.mg_of X G gn5, g6 := PySem.W.mg_of X G gn6, g7 := PySem.W.mg_of X G gn7, g8 := PySem.W.mg_of X G gn8, g9 := PySem.W.mg_of X G gn9, g10 := PySem.W.mg_of X G gn10, g11 := PySem.W.mg_of X G gn11, g12 := PySem.W.mg_of X G gn12, g13 := PySem.W.mg_of X G gn13, g14 := PySem.W.mg_of X G gn14, g15 := PySem.W.mg_of X G gn15, g16 := PySem.W.mg_of X G gn16, g17 := PySem.W.mg_of X G gn17, g18 := PySem.W.mg_of X G gn18, g19 := PySem.W.mg_of X G gn19, gS := PySem.W.mg_of X G gS, ex := EX, kk := fun i j hi hj => kit_ref (UP i hi) (upE_is (UP j hj)) (TY j hj) (by
    rw [con_ref (nS j hj)]
    by_cases e : i = j
    · rw [e, decide_eq_true rfl, decide_eq_true rfl]
    · rw [decide_eq_false e, decide_eq_false (fun z => e (inj i hi j hj z))]), ks := fun i hi => kit_ref (UP i hi) icS tyS con_S, kv := fun i hi => kit_ve (UP i hi) }
  have M : MakT P K mg C := { t0 := ⟨fI0, T0⟩, t1 := ⟨fI1, T1⟩, t2 := ⟨fI2, T2⟩, t3 := ⟨fI3, T3⟩, t4 := ⟨fI4, T4⟩, t5 := ⟨fI5, T5⟩, t6 := ⟨fI6, T6⟩, t7 := ⟨fI7, T7⟩, t8 := ⟨fI8, T8⟩, t9 := ⟨fI9, T9⟩, t10 := ⟨fI10, T10⟩, n11 := ⟨ei11, kp11⟩, t12 := ⟨fI12, T12⟩, t13 := ⟨fI13, T13⟩, t14 := ⟨fI14, T14⟩, t15 := ⟨fI15, T15⟩, n16 := ⟨ei16, kp16⟩, t17 := ⟨fI17, T17⟩, n18 := ⟨ei18, kp18⟩, n19 := ⟨ei19, kp19⟩ }
  have Fcellat := fun_mk (st := (topS 23)) lcellat ccellat kcellat
  have Bcellat := Fcellat.binds (ps := ["_law_script", "_law_k"]) fun _ _ _ _ _ _ us hl => match us, hl with | [_, _], _ => rfl
  have Fmixed := fun_mk (st := (topS 24)) lmixed cmixed kmixed
  have Bmixed := Fmixed.binds (ps := ["_law_cell", "_law_k"]) fun _ _ _ _ _ _ us hl => match us, hl with | [_, _], _ => rfl
  have Frow := fun_mk (st := (topS 25)) lrow crow krow
  have Brow := Frow.binds (ps := ["_law_cell", "_law_many"]) fun _ _ _ _ _ _ us hl => match us, hl with | [_, _], _ => rfl
  have Fkinds := fun_mk (st := (topS 26)) lkinds ckinds kkinds
  have Bkinds := Fkinds.binds (ps := ["_law_e"]) fun _ _ _ _ _ _ us hl => match us, hl with | [_], _ => rfl
  have Fwords := fun_mk (st := (topS 27)) lwords cwords kwords
  have Bwords := Fwords.binds (ps := ["_law_row_here"]) fun _ _ _ _ _ _ us hl => match us, hl with | [_], _ => rfl
  have Flaw := fun_mk (st := (topS 28)) llaw claw klaw
  have Blaw := Flaw.binds (ps := ["_law_script"]) fun _ _ _ _ _ _ us hl => match us, hl with | [_], _ => rfl
  refine ⟨PySem.W.fnOf "law" "law" (defArgs (topS 28)) (defBody (topS 28)) (defScope (topS 28)) .none kVlaw dclaw pmlaw anlaw cdlaw ctlaw, fun s v => .of_eq rfl, fun base _ _ => ?_⟩
  have Gcellat : CalX P w K mg base CX0 1 "_law_cell_at" (spCellAt K) := ⟨_, _, _, ok_cell_at Fcellat L, PySem.W.mg_of X G acellat, kcellat, Bcellat⟩
  have Gmixed : CalX P w K mg base CX0 1 "_law_mixed" spMixed := ⟨_, _, _, ok_mixed Fmixed L, PySem.W.mg_of X G amixed, kmixed, Bmixed⟩
  have Grow : CalX P w K mg base CX0 2 "_law_row" spRow := ⟨_, _, _, ok_row Frow L Gmixed, PySem.W.mg_of X G arow, krow, Brow⟩
  have Gwords : CalX P w K mg base CX0 1 "_law_words" spWords := ⟨_, _, _, ok_words Fwords L, PySem.W.mg_of X G awords, kwords, Bwords⟩
  have Gkinds : CalX P w K mg base CX0 1 "_law_kinds" (spKinds C) := ⟨_, _, _, ok_kinds Fkinds L T, PySem.W.mg_of X G akinds, kkinds, Bkinds⟩
  exact ok_law Flaw L T M Gcellat Grow Gwords Gkinds
theorem walk {l : PySem.W.OpenLaw} {q : Program} {loose : List Str} {XP : (Str → Option Value) → Heap → Prop} {YP : World → Heap → Prop} {d : DefRec} {K : Params → PySem.W.Frag} (hn : l.most = some 63) (hdf : d.params.defaults = [])
    (hY : ∀ (w : World) (h : Heap), YP w h → (K w.params).In h)
    (hF : ∀ (w : World) (mg : Str → Option Value) (fa : Addr) (h : Heap), (K w.params).In h → h.Ns mainGlobals mg → mg d.name = some (.ref fa) →
      ∃ fd : FuncData, (∀ (s : Shared) (u : Value), BindsTo s fd ⟨[u], []⟩ [("_law_script", u)]) ∧ ∀ base : Heap, (K w.params).In base → base.Ns mainGlobals mg → FnOk l.prog w (K w.params) mg base CX0 3 fa fd ["_law_script"] (spLaw (K w.params))) :
    PySem.W.WalkO q loose XP YP l.row.toRowW d [] (fun f vs => PySem.call f vs) :=
  L2.walk_of (n := 63) (k := 3) (x := "_law_script") (CX := fun _ => CX0) (sp := fun w => spLaw (K w.params)) hn (by decide) hdf ⟨rfl, by decide, by decide⟩ hY hF (fun _ _ a ns _ _ hS => ⟨a, ns, rfl, hS, fun _ _ => rfl⟩) fun _ _ _ _ _ z => z
end Fs

open PySem PySem.W PyProof.Rows
set_option Elab.async false
set_option maxRecDepth 100000 in
set_option maxHeartbeats 0 in
theorem PySem.Challenge.cw_fullseats_k13_errors_holds : PySem.Challenge.rw_fullseats_k13_errors.Holds := by
  w_on; o_law; k_head; (case hw => w_witness2)
  k_fill
  refine Fs.walk (l := PySem.Challenge.rw_fullseats_k13_errors) rfl rfl (fun w h Y => PySem.W.kIn_of Y) ?F
  case F =>
    intro w mg fa h KX G hmg
    refine' Fs.all_mk KX G hmg ?acellat ?lcellat ?ccellat ?kcellat ?amixed ?lmixed ?cmixed ?kmixed ?arow ?lrow ?crow ?krow ?akinds ?lkinds ?ckinds ?kkinds ?awords ?lwords ?cwords ?kwords ?alaw ?llaw ?claw ?klaw ?gS ?opq ?topB ?hnC ?htC ?gn0 ?x0 ?ga0 ?gg0 ?ex0 ?hd0 ?ha0 ?hm0 ?ty0 ?kp0 ?ei0 ?sa0 ?no0 ?iB0 ?tB0 ?ve0 ?mr0 ?sp0 ?lB0 ?cB0 ?oB0 ?vB0 ?fB0 ?ce0 ?ln0 ?zM0l ?gn1 ?x1 ?ga1 ?gg1 ?ex1 ?hd1 ?ha1 ?hm1 ?ty1 ?kp1 ?ei1 ?sa1 ?no1 ?iB1 ?tB1 ?ve1 ?mr1 ?sp1 ?lB1 ?cB1 ?oB1 ?vB1 ?fB1 ?ce1 ?ln1 ?zM1l ?gn2 ?x2 ?ga2 ?gg2 ?ex2 ?hd2 ?ha2 ?hm2 ?ty2 ?kp2 ?ei2 ?sa2 ?no2 ?iB2 ?tB2 ?ve2 ?mr2 ?sp2 ?lB2 ?cB2 ?oB2 ?vB2 ?fB2 ?ce2 ?ln2 ?zM2l ?gn3 ?x3 ?ga3 ?gg3 ?ex3 ?hd3 ?ha3 ?hm3 ?ty3 ?kp3 ?ei3 ?sa3 ?no3 ?iB3 ?tB3 ?ve3 ?mr3 ?sp3 ?lB3 ?cB3 ?oB3 ?vB3 ?fB3 ?ce3 ?ln3 ?zM3l ?gn4 ?x4 ?ga4 ?gg4 ?ex4 ?hd4 ?ha4 ?hm4 ?ty4 ?kp4 ?ei4 ?sa4 ?no4 ?iB4 ?tB4 ?ve4 ?mr4 ?sp4 ?lB4 ?cB4 ?oB4 ?vB4 ?fB4 ?ce4 ?ln4 ?zM4l ?gn5 ?x5 ?ga5 ?gg5 ?ex5 ?hd5 ?ha5 ?hm5 ?ty5 ?kp5 ?ei5 ?sa5 ?no5 ?iB5 ?tB5 ?ve5 ?mr5 ?sp5 ?lB5 ?cB5 ?oB5 ?vB5 ?fB5 ?ce5 ?ln5 ?zM5l ?gn6 ?x6 ?ga6 ?gg6 ?ex6 ?hd6 ?ha6 ?hm6 ?ty6 ?kp6 ?ei6 ?sa6 ?no6 ?iB6 ?tB6 ?ve6 ?mr6 ?sp6 ?lB6 ?cB6 ?oB6 ?vB6 ?fB6 ?ce6 ?ln6 ?zM6l ?gn7 ?x7 ?ga7 ?gg7 ?ex7 ?hd7 ?ha7 ?hm7 ?ty7 ?kp7 ?ei7 ?sa7 ?no7 ?iB7 ?tB7 ?ve7 ?mr7 ?sp7 ?lB7 ?cB7 ?oB7 ?vB7 ?fB7 ?ce7 ?ln7 ?zM7l ?gn8 ?x8 ?ga8 ?gg8 ?ex8 ?hd8 ?ha8 ?hm8 ?ty8 ?kp8 ?ei8 ?sa8 ?no8 ?iB8 ?tB8 ?ve8 ?mr8 ?sp8 ?lB8 ?cB8 ?oB8 ?vB8 ?fB8 ?ce8 ?ln8 ?zM8l ?gn9 ?x9 ?ga9 ?gg9 ?ex9 ?hd9 ?ha9 ?hm9 ?ty9 ?kp9 ?ei9 ?sa9 ?no9 ?iB9 ?tB9 ?ve9 ?mr9 ?sp9 ?lB9 ?cB9 ?oB9 ?vB9 ?fB9 ?ce9 ?ln9 ?zM9l ?gn10 ?x10 ?ga10 ?gg10 ?ex10 ?hd10 ?ha10 ?hm10 ?ty10 ?kp10 ?ei10 ?sa10 ?no10 ?iB10 ?tB10 ?ve10 ?mr10 ?sp10 ?lB10 ?cB10 ?oB10 ?vB10 ?fB10 ?ce10 ?ln10 ?zM10l ?gn11 ?x11 ?ga11 ?gg11 ?ex11 ?hd11 ?ha11 ?hm11 ?ty11 ?kp11 ?ei11 ?gn12 ?x12 ?ga12 ?gg12 ?ex12 ?hd12 ?ha12 ?hm12 ?ty12 ?kp12 ?ei12 ?sa12 ?no12 ?iB12 ?tB12 ?ve12 ?mr12 ?sp12 ?lB12 ?cB12 ?oB12 ?vB12 ?fB12 ?ce12 ?ln12 ?zM12l ?gn13 ?x13 ?ga13 ?gg13 ?ex13 ?hd13 ?ha13 ?hm13 ?ty13 ?kp13 ?ei13 ?sa13 ?no13 ?iB13 ?tB13 ?ve13 ?mr13 ?sp13 ?lB13 ?cB13 ?oB13 ?vB13 ?fB13 ?ce13 ?ln13 ?zM13l ?gn14 ?x14 ?ga14 ?gg14 ?ex14 ?hd14 ?ha14 ?hm14 ?ty14 ?kp14 ?ei14 ?sa14 ?no14 ?iB14 ?tB14 ?ve14 ?mr14 ?sp14 ?lB14 ?cB14 ?oB14 ?vB14 ?fB14 ?ce14 ?ln14 ?zM14l ?gn15 ?x15 ?ga15 ?gg15 ?ex15 ?hd15 ?ha15 ?hm15 ?ty15 ?kp15 ?ei15 ?sa15 ?no15 ?iB15 ?tB15 ?ve15 ?mr15 ?sp15 ?lB15 ?cB15 ?oB15 ?vB15 ?fB15 ?ce15 ?ln15 ?zM15l ?gn16 ?x16 ?ga16 ?gg16 ?ex16 ?hd16 ?ha16 ?hm16 ?ty16 ?kp16 ?ei16 ?gn17 ?x17 ?ga17 ?gg17 ?ex17 ?hd17 ?ha17 ?hm17 ?ty17 ?kp17 ?ei17 ?sa17 ?no17 ?iB17 ?tB17 ?ve17 ?mr17 ?sp17 ?lB17 ?cB17 ?oB17 ?vB17 ?fB17 ?ce17 ?ln17 ?zM17l ?gn18 ?x18 ?ga18 ?gg18 ?ex18 ?hd18 ?ha18 ?hm18 ?ty18 ?kp18 ?ei18 ?gn19 ?x19 ?ga19 ?gg19 ?ex19 ?hd19 ?ha19 ?hm19 ?ty19 ?kp19 ?ei19 ?icS ?tyS ?inj ?nS ?z_len ?z_int ?z_abs ?z_range ?z_isinstance ?z_ValueError ?z_super
    (case acellat => k_is)
    (case lcellat => k_is)
    (case ccellat => k_is)
    (case kcellat => k_is)
    (case amixed => k_is)
    (case lmixed => k_is)
    (case cmixed => k_is)
    (case kmixed => k_is)
    (case arow => k_is)
    (case lrow => k_is)
    (case crow => k_is)
    (case krow => k_is)
    (case akinds => k_is)
    (case lkinds => k_is)
    (case ckinds => k_is)
    (case kkinds => k_is)
    (case awords => k_is)
    (case lwords => k_is)
    (case cwords => k_is)
    (case kwords => k_is)
    (case alaw => k_is)
    (case llaw => k_is)
    (case claw => k_is)
    (case klaw => k_is)
    (case gS => k_is)
    (case opq => k_is)
    (case topB => decide +kernel)
    (case hnC => k_is)
    (case htC => k_is)
    (case gn0 => k_is)
    (case x0 => k_is)
    (case ga0 => k_is)
    (case gg0 => k_is)
    (case ex0 => k_is)
    (case hd0 => k_is)
    (case ha0 => k_is)
    (case hm0 => k_is)
    (case ty0 => k_is)
    (case kp0 => k_is)
    (case ei0 => kx_is)
    (case sa0 => k_is)
    (case no0 => k_is)
    (case iB0 => k_is)
    (case tB0 => k_is)
    (case ve0 => k_is)
    (case mr0 => k_is)
    (case sp0 => ks_is)
    (case lB0 => k_is)
    (case cB0 => k_is)
    (case oB0 => k_is)
    (case vB0 => rfl)
    (case fB0 => decide +kernel)
    (case ce0 => k_is)
    (case ln0 => decide +kernel)
    (case zM0l => decide +kernel)
    (case gn1 => k_is)
    (case x1 => k_is)
    (case ga1 => k_is)
    (case gg1 => k_is)
    (case ex1 => k_is)
    (case hd1 => k_is)
    (case ha1 => k_is)
    (case hm1 => k_is)
    (case ty1 => k_is)
    (case kp1 => k_is)
    (case ei1 => kx_is)
    (case sa1 => k_is)
    (case no1 => k_is)
    (case iB1 => k_is)
    (case tB1 => k_is)
    (case ve1 => k_is)
    (case mr1 => k_is)
    (case sp1 => ks_is)
    (case lB1 => k_is)
    (case cB1 => k_is)
    (case oB1 => k_is)
    (case vB1 => rfl)
    (case fB1 => decide +kernel)
    (case ce1 => k_is)
    (case ln1 => decide +kernel)
    (case zM1l => decide +kernel)
    (case gn2 => k_is)
    (case x2 => k_is)
    (case ga2 => k_is)
    (case gg2 => k_is)
    (case ex2 => k_is)
    (case hd2 => k_is)
    (case ha2 => k_is)
    (case hm2 => k_is)
    (case ty2 => k_is)
    (case kp2 => k_is)
    (case ei2 => kx_is)
    (case sa2 => k_is)
    (case no2 => k_is)
    (case iB2 => k_is)
    (case tB2 => k_is)
    (case ve2 => k_is)
    (case mr2 => k_is)
    (case sp2 => ks_is)
    (case lB2 => k_is)
    (case cB2 => k_is)
    (case oB2 => k_is)
    (case vB2 => rfl)
    (case fB2 => decide +kernel)
    (case ce2 => k_is)
    (case ln2 => decide +kernel)
    (case zM2l => decide +kernel)
    (case gn3 => k_is)
    (case x3 => k_is)
    (case ga3 => k_is)
    (case gg3 => k_is)
    (case ex3 => k_is)
    (case hd3 => k_is)
    (case ha3 => k_is)
    (case hm3 => k_is)
    (case ty3 => k_is)
    (case kp3 => k_is)
    (case ei3 => kx_is)
    (case sa3 => k_is)
    (case no3 => k_is)
    (case iB3 => k_is)
    (case tB3 => k_is)
    (case ve3 => k_is)
    (case mr3 => k_is)
    (case sp3 => ks_is)
    (case lB3 => k_is)
    (case cB3 => k_is)
    (case oB3 => k_is)
    (case vB3 => rfl)
    (case fB3 => decide +kernel)
    (case ce3 => k_is)
    (case ln3 => decide +kernel)
    (case zM3l => decide +kernel)
    (case gn4 => k_is)
    (case x4 => k_is)
    (case ga4 => k_is)
    (case gg4 => k_is)
    (case ex4 => k_is)
    (case hd4 => k_is)
    (case ha4 => k_is)
    (case hm4 => k_is)
    (case ty4 => k_is)
    (case kp4 => k_is)
    (case ei4 => kx_is)
    (case sa4 => k_is)
    (case no4 => k_is)
    (case iB4 => k_is)
    (case tB4 => k_is)
    (case ve4 => k_is)
    (case mr4 => k_is)
    (case sp4 => ks_is)
    (case lB4 => k_is)
    (case cB4 => k_is)
    (case oB4 => k_is)
    (case vB4 => rfl)
    (case fB4 => decide +kernel)
    (case ce4 => k_is)
    (case ln4 => decide +kernel)
    (case zM4l => decide +kernel)
    (case gn5 => k_is)
    (case x5 => k_is)
    (case ga5 => k_is)
    (case gg5 => k_is)
    (case ex5 => k_is)
    (case hd5 => k_is)
    (case ha5 => k_is)
    (case hm5 => k_is)
    (case ty5 => k_is)
    (case kp5 => k_is)
    (case ei5 => kx_is)
    (case sa5 => k_is)
    (case no5 => k_is)
    (case iB5 => k_is)
    (case tB5 => k_is)
    (case ve5 => k_is)
    (case mr5 => k_is)
    (case sp5 => ks_is)
    (case lB5 => k_is)
    (case cB5 => k_is)
    (case oB5 => k_is)
    (case vB5 => rfl)
    (case fB5 => decide +kernel)
    (case ce5 => k_is)
    (case ln5 => decide +kernel)
    (case zM5l => decide +kernel)
    (case gn6 => k_is)
    (case x6 => k_is)
    (case ga6 => k_is)
    (case gg6 => k_is)
    (case ex6 => k_is)
    (case hd6 => k_is)
    (case ha6 => k_is)
    (case hm6 => k_is)
    (case ty6 => k_is)
    (case kp6 => k_is)
    (case ei6 => kx_is)
    (case sa6 => k_is)
    (case no6 => k_is)
    (case iB6 => k_is)
    (case tB6 => k_is)
    (case ve6 => k_is)
    (case mr6 => k_is)
    (case sp6 => ks_is)
    (case lB6 => k_is)
    (case cB6 => k_is)
    (case oB6 => k_is)
    (case vB6 => rfl)
    (case fB6 => decide +kernel)
    (case ce6 => k_is)
    (case ln6 => decide +kernel)
    (case zM6l => decide +kernel)
    (case gn7 => k_is)
    (case x7 => k_is)
    (case ga7 => k_is)
    (case gg7 => k_is)
    (case ex7 => k_is)
    (case hd7 => k_is)
    (case ha7 => k_is)
    (case hm7 => k_is)
    (case ty7 => k_is)
    (case kp7 => k_is)
    (case ei7 => kx_is)
    (case sa7 => k_is)
    (case no7 => k_is)
    (case iB7 => k_is)
    (case tB7 => k_is)
    (case ve7 => k_is)
    (case mr7 => k_is)
    (case sp7 => ks_is)
    (case lB7 => k_is)
    (case cB7 => k_is)
    (case oB7 => k_is)
    (case vB7 => rfl)
    (case fB7 => decide +kernel)
    (case ce7 => k_is)
    (case ln7 => decide +kernel)
    (case zM7l => decide +kernel)
    (case gn8 => k_is)
    (case x8 => k_is)
    (case ga8 => k_is)
    (case gg8 => k_is)
    (case ex8 => k_is)
    (case hd8 => k_is)
    (case ha8 => k_is)
    (case hm8 => k_is)
    (case ty8 => k_is)
    (case kp8 => k_is)
    (case ei8 => kx_is)
    (case sa8 => k_is)
    (case no8 => k_is)
    (case iB8 => k_is)
    (case tB8 => k_is)
    (case ve8 => k_is)
    (case mr8 => k_is)
    (case sp8 => ks_is)
    (case lB8 => k_is)
    (case cB8 => k_is)
    (case oB8 => k_is)
    (case vB8 => rfl)
    (case fB8 => decide +kernel)
    (case ce8 => k_is)
    (case ln8 => decide +kernel)
    (case zM8l => decide +kernel)
    (case gn9 => k_is)
    (case x9 => k_is)
    (case ga9 => k_is)
    (case gg9 => k_is)
    (case ex9 => k_is)
    (case hd9 => k_is)
    (case ha9 => k_is)
    (case hm9 => k_is)
    (case ty9 => k_is)
    (case kp9 => k_is)
    (case ei9 => kx_is)
    (case sa9 => k_is)
    (case no9 => k_is)
    (case iB9 => k_is)
    (case tB9 => k_is)
    (case ve9 => k_is)
    (case mr9 => k_is)
    (case sp9 => ks_is)
    (case lB9 => k_is)
    (case cB9 => k_is)
    (case oB9 => k_is)
    (case vB9 => rfl)
    (case fB9 => decide +kernel)
    (case ce9 => k_is)
    (case ln9 => decide +kernel)
    (case zM9l => decide +kernel)
    (case gn10 => k_is)
    (case x10 => k_is)
    (case ga10 => k_is)
    (case gg10 => k_is)
    (case ex10 => k_is)
    (case hd10 => k_is)
    (case ha10 => k_is)
    (case hm10 => k_is)
    (case ty10 => k_is)
    (case kp10 => k_is)
    (case ei10 => kx_is)
    (case sa10 => k_is)
    (case no10 => k_is)
    (case iB10 => k_is)
    (case tB10 => k_is)
    (case ve10 => k_is)
    (case mr10 => k_is)
    (case sp10 => ks_is)
    (case lB10 => k_is)
    (case cB10 => k_is)
    (case oB10 => k_is)
    (case vB10 => rfl)
    (case fB10 => decide +kernel)
    (case ce10 => k_is)
    (case ln10 => decide +kernel)
    (case zM10l => decide +kernel)
    (case gn11 => k_is)
    (case x11 => k_is)
    (case ga11 => k_is)
    (case gg11 => k_is)
    (case ex11 => k_is)
    (case hd11 => k_is)
    (case ha11 => k_is)
    (case hm11 => k_is)
    (case ty11 => k_is)
    (case kp11 => k_is)
    (case ei11 => k_exc)
    (case gn12 => k_is)
    (case x12 => k_is)
    (case ga12 => k_is)
    (case gg12 => k_is)
    (case ex12 => k_is)
    (case hd12 => k_is)
    (case ha12 => k_is)
    (case hm12 => k_is)
    (case ty12 => k_is)
    (case kp12 => k_is)
    (case ei12 => kx_is)
    (case sa12 => k_is)
    (case no12 => k_is)
    (case iB12 => k_is)
    (case tB12 => k_is)
    (case ve12 => k_is)
    (case mr12 => k_is)
    (case sp12 => ks_is)
    (case lB12 => k_is)
    (case cB12 => k_is)
    (case oB12 => k_is)
    (case vB12 => rfl)
    (case fB12 => decide +kernel)
    (case ce12 => k_is)
    (case ln12 => decide +kernel)
    (case zM12l => decide +kernel)
    (case gn13 => k_is)
    (case x13 => k_is)
    (case ga13 => k_is)
    (case gg13 => k_is)
    (case ex13 => k_is)
    (case hd13 => k_is)
    (case ha13 => k_is)
    (case hm13 => k_is)
    (case ty13 => k_is)
    (case kp13 => k_is)
    (case ei13 => kx_is)
    (case sa13 => k_is)
    (case no13 => k_is)
    (case iB13 => k_is)
    (case tB13 => k_is)
    (case ve13 => k_is)
    (case mr13 => k_is)
    (case sp13 => ks_is)
    (case lB13 => k_is)
    (case cB13 => k_is)
    (case oB13 => k_is)
    (case vB13 => rfl)
    (case fB13 => decide +kernel)
    (case ce13 => k_is)
    (case ln13 => decide +kernel)
    (case zM13l => decide +kernel)
    (case gn14 => k_is)
    (case x14 => k_is)
    (case ga14 => k_is)
    (case gg14 => k_is)
    (case ex14 => k_is)
    (case hd14 => k_is)
    (case ha14 => k_is)
    (case hm14 => k_is)
    (case ty14 => k_is)
    (case kp14 => k_is)
    (case ei14 => kx_is)
    (case sa14 => k_is)
    (case no14 => k_is)
    (case iB14 => k_is)
    (case tB14 => k_is)
    (case ve14 => k_is)
    (case mr14 => k_is)
    (case sp14 => ks_is)
    (case lB14 => k_is)
    (case cB14 => k_is)
    (case oB14 => k_is)
    (case vB14 => rfl)
    (case fB14 => decide +kernel)
    (case ce14 => k_is)
    (case ln14 => decide +kernel)
    (case zM14l => decide +kernel)
    (case gn15 => k_is)
    (case x15 => k_is)
    (case ga15 => k_is)
    (case gg15 => k_is)
    (case ex15 => k_is)
    (case hd15 => k_is)
    (case ha15 => k_is)
    (case hm15 => k_is)
    (case ty15 => k_is)
    (case kp15 => k_is)
    (case ei15 => kx_is)
    (case sa15 => k_is)
    (case no15 => k_is)
    (case iB15 => k_is)
    (case tB15 => k_is)
    (case ve15 => k_is)
    (case mr15 => k_is)
    (case sp15 => ks_is)
    (case lB15 => k_is)
    (case cB15 => k_is)
    (case oB15 => k_is)
    (case vB15 => rfl)
    (case fB15 => decide +kernel)
    (case ce15 => k_is)
    (case ln15 => decide +kernel)
    (case zM15l => decide +kernel)
    (case gn16 => k_is)
    (case x16 => k_is)
    (case ga16 => k_is)
    (case gg16 => k_is)
    (case ex16 => k_is)
    (case hd16 => k_is)
    (case ha16 => k_is)
    (case hm16 => k_is)
    (case ty16 => k_is)
    (case kp16 => k_is)
    (case ei16 => k_exc)
    (case gn17 => k_is)
    (case x17 => k_is)
    (case ga17 => k_is)
    (case gg17 => k_is)
    (case ex17 => k_is)
    (case hd17 => k_is)
    (case ha17 => k_is)
    (case hm17 => k_is)
    (case ty17 => k_is)
    (case kp17 => k_is)
    (case ei17 => kx_is)
    (case sa17 => k_is)
    (case no17 => k_is)
    (case iB17 => k_is)
    (case tB17 => k_is)
    (case ve17 => k_is)
    (case mr17 => k_is)
    (case sp17 => ks_is)
    (case lB17 => k_is)
    (case cB17 => k_is)
    (case oB17 => k_is)
    (case vB17 => rfl)
    (case fB17 => decide +kernel)
    (case ce17 => k_is)
    (case ln17 => decide +kernel)
    (case zM17l => decide +kernel)
    (case gn18 => k_is)
    (case x18 => k_is)
    (case ga18 => k_is)
    (case gg18 => k_is)
    (case ex18 => k_is)
    (case hd18 => k_is)
    (case ha18 => k_is)
    (case hm18 => k_is)
    (case ty18 => k_is)
    (case kp18 => k_is)
    (case ei18 => k_exc)
    (case gn19 => k_is)
    (case x19 => k_is)
    (case ga19 => k_is)
    (case gg19 => k_is)
    (case ex19 => k_is)
    (case hd19 => k_is)
    (case ha19 => k_is)
    (case hm19 => k_is)
    (case ty19 => k_is)
    (case kp19 => k_is)
    (case ei19 => k_exc)
    (case icS => k_is)
    (case tyS => k_is)
    (case inj => decide +kernel)
    (case nS => decide +kernel)
    (case z_len => k_is)
    (case z_int => k_is)
    (case z_abs => k_is)
    (case z_range => k_is)
    (case z_isinstance => k_is)
    (case z_ValueError => k_is)
    (case z_super => k_is)

