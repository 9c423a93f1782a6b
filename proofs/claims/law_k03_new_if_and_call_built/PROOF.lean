import PyProof.Rows.All
import Wide.All
import OpenK.AllK
import Wide.FinOn
import HandS.Base
import HandS.Call
import HandS.List
import HandS.Exc
import HandS.ExcOwn
import HandS.ClsMeth
import KE.DatumOrd
import HandS.SortKw
import HandS.ForMost
import HandS.Evl
import HandS.ForExc
import HandS.Walk
import HandS.IsInst
import HandS.Codes
import PyProof.FString
import KE.KSuper
import KE.KExcSuper
import KE.OsGo
import HandS.Flow
import HandS.ExcField
import KE.KExcLine
import KE.RegKSuper
import PySem.Challenge.RW_fullseats_k03_new_if_and_call_built
set_option Elab.async false
set_option linter.all false
set_option maxRecDepth 100000
set_option maxHeartbeats 2000000
/-! A staticmethod that is called off its class. -/
namespace FsR
open PySem PySem.Spec PyProof.Rows L2 ClX
structure SMet (K : PySem.W.Frag) (C : Addr) (mc : Value) (m : Str) (p g : Addr) : Prop where
  at_ : PySem.W.findCls K (.ref C) mc m = some (.get (.builtin "staticmethod.__get__") (.ref p) .none (.ref C))
  rc : ∃ rest, PySem.W.recIn K p "staticmethod" = some (.ref g :: rest)
  kp : PySem.W.keepIn K (.ref g) = true
section
variable {X : Cx} {pins : List (Addr × Obj)} {σ : L2.St} {H : Hp} {s : Shared} {C p g : Addr} {mc : Value} {m : Str} {A : Around} {E : Value → Shared → Prop}
theorem getmethsm_ok {pl : Sem Bool} {Q : Value × List Value → Shared → Prop} (I : Inv X pins σ H s) (r : CRead X.K C mc) (k : SMet X.K C mc m p g)
    (h : ∀ s', Inv X pins σ H s' → Q (.ref g, []) s') : wpAny (model X.prog X.w) A (getMethod (.ref C) m pl) Q E s := by
  obtain ⟨rest, hp⟩ := k.rc
  exact PySem.W.method_cls I.kIn r.ga (PySem.W.cls_bind I.kIn r.rd k.at_ (wpAny_call (PySem.W.sm_get (s := { s with toks := s.toks + 1 }) I.kIn hp (PySem.W.handed_on rfl (h _ (I.tok _))))))
end
/-- C.m(..), e the class at C, m a staticmethod; E: what is wanted of what it raises, at the slots -/
def tStat (C : Addr) (sp : Sp) (E : L2.St → XK) (ta : TE) (t : TA) : TE := fun σ H Q => ta σ H fun x H1 => x = .ref C ∧ t σ H1 fun vs H2 => sp vs H2 Q (E σ)
theorem passesAt_of {CX : CXT} {X : Cx} {E : XK} (h : Passes CX X E) (σ : L2.St) : PassesAt CX X σ E := fun pins H s e s' I c => h pins σ H s e s' I c
section
variable {X : Cx} {CX : CXT} {k : Nat} {C p g : Addr} {mc : Value} {fd : FuncData} {ps : List Str} {sp : Sp} {E : L2.St → XK} {o e : Expr} {es : List Expr} {m : Str} {pos apos : Pos} {ta : TE} {t : TA} {pl : Sem Bool}
theorem pe_stat (he : PE X o ta) (r : CRead X.K C mc) (c : SMet X.K C mc m p g) (F : FnOk X.prog X.w X.K X.mg X.base CX k g fd ps sp) (hr : Room k X.A) (hb : Binds X.K fd ps []) (hx : ∀ σ, PassesAt CX X σ (E σ)) (ha : PA X (e :: es) t)
    (hst : starEach (e :: es) X.env = (false, eval e X.env) :: starEach es X.env := by rfl) (hpl : (backTo pos (starEach es X.env)).any (·.1) = false := by rfl)
    (ht : eval (.Call (.Attribute o m apos) (e :: es) [] pos) X.env = (do
      let ov ← eval o X.env
      standAt apos.atName
      let (f, first) ← holding [ov] (getMethod ov m pl)
      callWith pos f first (backTo pos (starEach (e :: es) X.env)) (backToKw pos (keywordEach [] X.env))) := by rfl) :
    PE X (.Call (.Attribute o m apos) (e :: es) [] pos) (tStat C sp E ta t) := by
  refine ⟨fun pins s σ H Q I h => ?_⟩
  refine PySem.W.methodCall_KW (pl := pl) (thn (he.run pins s σ H _ I h) fun u s1 ⟨x, H1, I1, rx, ex, q⟩ => ?_) ht
  subst ex
  obtain rfl : u = Value.ref C := rx
  refine getmethsm_ok I1 r c fun s2 I2 => ?_
  refine PySem.W.callWith_K (first := []) (h₀ := X.base) I.ok.mod.kin c.kp (thn (ha.run pos pins s2 σ H1 _ I2 q) fun us s3 ⟨vs, H2, I3, rv, q2⟩ => ⟨I3.kIn, ?_⟩) hst hpl
  exact run_fnS F hr hb (hx σ) I3 rv q2
theorem pe_stat0 (he : PE X o ta) (r : CRead X.K C mc) (c : SMet X.K C mc m p g) (F : FnOk X.prog X.w X.K X.mg X.base CX k g fd ps sp) (hr : Room k X.A) (hb : Binds X.K fd ps []) (hx : ∀ σ, PassesAt CX X σ (E σ))
    (ht : eval (.Call (.Attribute o m apos) [] [] pos) X.env = (do
      let ov ← eval o X.env
      standAt apos.atName
      let (f, first) ← holding [ov] (getMethod ov m pl)
      callWith pos f first (backTo pos (starEach [] X.env)) (backToKw pos (keywordEach [] X.env))) := by rfl) :
    PE X (.Call (.Attribute o m apos) [] [] pos) (tStat C sp E ta tNil) := by
  refine ⟨fun pins s σ H Q I h => ?_⟩
  refine PySem.W.methodCall_KW (pl := pl) (thn (he.run pins s σ H _ I h) fun u s1 ⟨x, H1, I1, rx, ex, q⟩ => ?_) ht
  subst ex
  obtain rfl : u = Value.ref C := rx
  refine getmethsm_ok I1 r c fun s2 I2 => ?_
  exact PySem.W.callWith_K0 (first := []) I2.kIn c.kp (run_fnS (us := []) (vs := []) F hr hb (hx σ) I2 .nil q)
end
end FsR

set_option Elab.async false
set_option linter.all false
set_option maxRecDepth 100000
set_option maxHeartbeats 2000000
/-! max(xs, default=d) of a list of ints -/
namespace FsR
open PySem PySem.Spec PyProof.Rows L2
def maxFrom (y : Int) (ys : List Int) : Int := ys.foldl max y
def maxDef (d : Int) : List Int → Int
  | [] => d
  | y :: ys => maxFrom y ys
theorem maxOf_eq : ∀ (ys : List Int) (y : Int), PySem.W.maxOf y ys = maxFrom y ys
  | [], y => rfl
  | z :: zs, y => by
    have e : (if PySem.W.DatumOrd.lt y z = true then z else y) = max y z := by
      show (if decide (y < z) = true then z else y) = max y z
      by_cases h : y < z
      · rw [if_pos (decide_eq_true h)]; omega
      · rw [if_neg (by simpa using h)]; omega
    have ih := maxOf_eq zs (max y z)
    unfold PySem.W.maxOf maxFrom at *
    rw [List.foldl_cons, List.foldl_cons, e]
    exact ih
theorem readsAll_ints {h : Heap} : ∀ {vs : List Value} {ns : List Int}, IntsAre vs ns → ∃ as, ReadsAll h vs (ns.map PySem.W.Datum.toD) as
  | _, _, .nil => ⟨[], .nil⟩
  | _, _, .cons n t r => by
    obtain ⟨as, z⟩ := readsAll_ints (h := h) r
    exact ⟨[] ++ as, .cons (.int n t) z⟩
/-- max(xs, default=d) -/
def rMaxD (K : PySem.W.Frag) : List V → List V → Hp → VK → Prop := fun xs zs H Q => ∃ (a : Addr) (ns : List Int) (d : Int), xs = [V.ref a] ∧ zs = [V.int d] ∧ SqL K H a (ns.map V.int) ∧ Q (.int (maxDef d ns)) H
theorem ck_maxD {X : Cx} (hc : X.calm = true) (hu : X.A.units + 1 + 1 < cLine) : CallRK X (.builtin "max") ["default"] (rMaxD X.K) := by
  intro pins s σ H xs zs us ws Q I r rz h
  obtain ⟨a, ns, d, rfl, rfl, hs, q⟩ := h
  obtain ⟨its, rv, hl, _⟩ := I.list hs
  rw [Vals.ref1 r]
  cases rz with
  | cons rd rn =>
    cases rn
    obtain ⟨t, rfl⟩ := rd
    have hI := rv.ints
    show wpAny (model X.prog X.w) X.A (call (.builtin "max") [.ref a] [(Str.ofString "default", .int d t)]) _ _ _
    refine PySem.W.max_list_datum_default (α := Int) (xs := ns) (I.ok.hd hc) hl.isList (readsAll_ints hI) (by show X.A.units + 1 + 0 < cLine; omega) (fun e h' tk hk => ?_) (fun y ys i v h' tk e hi hv hk => ?_)
    · subst e
      exact ⟨.int d, H, I.kept hk, ⟨t, rfl⟩, q⟩
    · subst e
      obtain ⟨as, z⟩ := hv
      have z' : ∃ t', v = Value.int (PySem.W.maxOf y ys) t' := by
        have z2 : Reads h' v (.int (PySem.W.maxOf y ys)) as := z
        cases z2 with
        | int _ t' => exact ⟨t', rfl⟩
      obtain ⟨t', rfl⟩ := z'
      refine ⟨.int (PySem.W.maxOf y ys), H, I.kept hk, ⟨t', rfl⟩, ?_⟩
      rw [maxOf_eq]
      exact q
end FsR

set_option Elab.async false
set_option linter.all false
set_option maxRecDepth 100000
set_option maxHeartbeats 2000000
namespace Fs
open PySem L2 Evl
/-! ### operands, processes, offers -/
inductive Opd where
  | int (i : Int)
  | nm (z : Str)
def Opd.v : Opd → V
  | .int i => .int i
  | .nm z => .str z
mutual
inductive Pr where
  | choice (os : Ofs)
  | new (n : Str) (k : Int) (r : Pr)
  | cond (l r : Opd) (y n : Pr)
  | call (n : Str) (ops : List Opd)
inductive Ofs where
  | nil
  | cons (c : Str) (seat seats : Int) (op : Opd) (names : List Str) (rest : Pr) (os : Ofs)
end
mutual
def Pr.depth : Pr → Int
  | .choice os => 1 + os.depth
  | .new _ _ r => 1 + r.depth
  | .cond _ _ y n => 1 + max y.depth n.depth
  | .call _ _ => 1
def Ofs.depth : Ofs → Int
  | .nil => 0
  | .cons _ _ _ _ _ r os => max r.depth os.depth
end
def Ofs.len : Ofs → Nat
  | .nil => 0
  | .cons _ _ _ _ _ _ os => os.len + 1
mutual
def Pr.size : Pr → Int
  | .choice os => max 1 (os.len : Int) + os.sum
  | .new _ _ r => 1 + r.size
  | .cond _ _ y n => 1 + (y.size + n.size)
  | .call _ _ => 1
def Ofs.sum : Ofs → Int
  | .nil => 0
  | .cons _ _ _ _ _ r os => r.size + os.sum
end
def Pr.kind : Pr → Str
  | .choice _ => "choice"
  | .new _ _ _ => "new"
  | .cond _ _ _ _ => "if"
  | .call _ _ => "call"
/-- the attributes, in the order in which __init__ stores them -/
def pFlds (k : Str) (t : Addr) (d z : Int) : List (Str × V) := putF "size" (.int z) (putF "depth" (.int d) (putF "parts" (.ref t) (putF "kind" (.str k) [])))
theorem n1 : ¬ (("kind" : Str) = "parts") := by decide +kernel
theorem n2 : ¬ (("kind" : Str) = "depth") := by decide +kernel
theorem n3 : ¬ (("kind" : Str) = "size") := by decide +kernel
theorem n4 : ¬ (("parts" : Str) = "depth") := by decide +kernel
theorem n5 : ¬ (("parts" : Str) = "size") := by decide +kernel
theorem n6 : ¬ (("depth" : Str) = "size") := by decide +kernel
theorem pf_kind {k : Str} {t : Addr} {d z : Int} : (pFlds k t d z).lookup ("kind" : Str) = some (.str k) := by
  unfold pFlds
  rw [lookup_putF, if_neg n3, lookup_putF, if_neg n2, lookup_putF, if_neg n1, lookup_putF, if_pos rfl]
theorem pf_parts {k : Str} {t : Addr} {d z : Int} : (pFlds k t d z).lookup ("parts" : Str) = some (.ref t) := by
  unfold pFlds
  rw [lookup_putF, if_neg n5, lookup_putF, if_neg n4, lookup_putF, if_pos rfl]
theorem pf_depth {k : Str} {t : Addr} {d z : Int} : (pFlds k t d z).lookup ("depth" : Str) = some (.int d) := by
  unfold pFlds
  rw [lookup_putF, if_neg n6, lookup_putF, if_pos rfl]
theorem pf_size {k : Str} {t : Addr} {d z : Int} : (pFlds k t d z).lookup ("size" : Str) = some (.int z) := by
  unfold pFlds
  rw [lookup_putF, if_pos rfl]
/-- an instance of the class at C with these parts -/
def InsAt (C : Addr) (H : Hp) (a : Addr) (k : Str) (t : Addr) (d z : Int) : Prop := ∃ dx, H a = some (.ins C dx (pFlds k t d z))
mutual
/-- at a stands the process p -/
def PrAt (C : Addr) (H : Hp) (a : Addr) : Pr → Prop
  | .choice os => ∃ t ps, InsAt C H a "choice" t (1 + os.depth) (max 1 (os.len : Int) + os.sum) ∧ H t = some (.tup ps) ∧ OfsAt C H ps os
  | .new n k r => ∃ t b, InsAt C H a "new" t (1 + r.depth) (1 + r.size) ∧ H t = some (.tup [.str n, .int k, .ref b]) ∧ PrAt C H b r
  | .cond l r y n => ∃ t b c, InsAt C H a "if" t (1 + max y.depth n.depth) (1 + (y.size + n.size)) ∧ H t = some (.tup [l.v, r.v, .ref b, .ref c]) ∧ PrAt C H b y ∧ PrAt C H c n
  | .call n ops => ∃ t u, InsAt C H a "call" t 1 1 ∧ H t = some (.tup [.str n, .ref u]) ∧ H u = some (.tup (ops.map Opd.v))
def OfsAt (C : Addr) (H : Hp) (ps : List V) : Ofs → Prop
  | .nil => ps = []
  | .cons c s m op ns r os => ∃ o u b qs, ps = .ref o :: qs ∧ H o = some (.tup [.str c, .int s, .int m, op.v, .ref u, .ref b]) ∧ H u = some (.tup (ns.map V.str)) ∧ PrAt C H b r ∧ OfsAt C H qs os
end
theorem InsAt.ex {C : Addr} {H H' : Hp} {a : Addr} {k : Str} {t : Addr} {d z : Int} (e : Ex H H') (h : InsAt C H a k t d z) : InsAt C H' a k t d z := by
  obtain ⟨dx, h⟩ := h
  exact ⟨dx, e _ _ h⟩
mutual
theorem PrAt.ex {C : Addr} {H H' : Hp} (e : Ex H H') : ∀ {p : Pr} {a : Addr}, PrAt C H a p → PrAt C H' a p
  | .choice os, a, h => by
    unfold PrAt at h ⊢
    obtain ⟨t, ps, h1, h2, h3⟩ := h
    exact ⟨t, ps, h1.ex e, e _ _ h2, OfsAt.ex e h3⟩
  | .new n k r, a, h => by
    unfold PrAt at h ⊢
    obtain ⟨t, b, h1, h2, h3⟩ := h
    exact ⟨t, b, h1.ex e, e _ _ h2, PrAt.ex e h3⟩
  | .cond l r y n, a, h => by
    unfold PrAt at h ⊢
    obtain ⟨t, b, c, h1, h2, h3, h4⟩ := h
    exact ⟨t, b, c, h1.ex e, e _ _ h2, PrAt.ex e h3, PrAt.ex e h4⟩
  | .call n ops, a, h => by
    unfold PrAt at h ⊢
    obtain ⟨t, u, h1, h2, h3⟩ := h
    exact ⟨t, u, h1.ex e, e _ _ h2, e _ _ h3⟩
theorem OfsAt.ex {C : Addr} {H H' : Hp} (e : Ex H H') : ∀ {os : Ofs} {ps : List V}, OfsAt C H ps os → OfsAt C H' ps os
  | .nil, ps, h => by
    unfold OfsAt at h ⊢
    exact h
  | .cons c s m op ns r os, ps, h => by
    unfold OfsAt at h ⊢
    obtain ⟨o, u, b, qs, h1, h2, h3, h4, h5⟩ := h
    exact ⟨o, u, b, qs, h1, e _ _ h2, e _ _ h3, PrAt.ex e h4, OfsAt.ex e h5⟩
end
/-- whatever the process: its instance -/
theorem PrAt.ins {C : Addr} {H : Hp} {p : Pr} {a : Addr} (h : PrAt C H a p) : ∃ t ps, InsAt C H a p.kind t p.depth p.size ∧ H t = some (.tup ps) := by
  cases p with
  | choice os =>
    unfold PrAt at h
    obtain ⟨t, ps, h1, h2, _⟩ := h
    exact ⟨t, ps, by unfold Pr.kind Pr.depth Pr.size; exact h1, h2⟩
  | new n k r =>
    unfold PrAt at h
    obtain ⟨t, b, h1, h2, _⟩ := h
    exact ⟨t, _, by unfold Pr.kind Pr.depth Pr.size; exact h1, h2⟩
  | cond l r y n =>
    unfold PrAt at h
    obtain ⟨t, b, c, h1, h2, _⟩ := h
    exact ⟨t, _, by unfold Pr.kind Pr.depth Pr.size; exact h1, h2⟩
  | call n ops =>
    unfold PrAt at h
    obtain ⟨t, u, h1, h2, _⟩ := h
    exact ⟨t, _, by unfold Pr.kind Pr.depth Pr.size; exact h1, h2⟩
end Fs

set_option Elab.async false
set_option linter.all false
set_option maxRecDepth 100000
set_option maxHeartbeats 2000000
/-! further Ev lemmas -/
namespace FsE
open PySem L2 Evl
section
variable {K : PySem.W.Frag} {σ : L2.St} {H : Hp} {ta tb tc te : TE} {x y z : V}
theorem ev_chain {r r' : R2} {a b : Bool} (ha : Ev ta σ H x) (hb : Ev tb σ H y) (h1 : RV r x y H (.bl a)) (hc : a = true → Ev tc σ H z) (h2 : a = true → RV r' y z H (.bl b)) : Ev (tChain r r' ta tb tc) σ H (.bl (a && b)) := fun H1 e Q q =>
  ha H1 e _ fun H2 e2 => hb H2 (e.trans e2) _ fun H3 e3 => h1 H3 ((e.trans e2).trans e3) _ fun H4 e4 => ⟨a, rfl, by
    cases a with
    | true =>
      show tc σ H4 _
      exact hc rfl H4 (((e.trans e2).trans e3).trans e4) _ fun H5 e5 => h2 rfl H5 ((((e.trans e2).trans e3).trans e4).trans e5) Q fun H6 e6 => q H6 ((((e2.trans e3).trans e4).trans e5).trans e6)
    | false =>
      show Q (.bl false) H4
      exact q H4 ((e2.trans e3).trans e4)⟩
theorem rc_isi {t T : String} {b : Bool} (ht : ∀ H1, Ex H H1 → TyX K H1 x (.type t)) (hk : kitB t T = some b) : RC (rIsi K) [x, .ty T] H (.bl b) := fun H1 e Q q =>
  ⟨x, .ty T, .type t, .type T, b, rfl, .ty T, ht H1 e, kit_ty hk, q H1 (Ex.refl H1)⟩
theorem rc_isStr {z : Str} {T : String} {b : Bool} (hk : kitB "str" T = some b) : RC (rIsi K) [.str z, .ty T] H (.bl b) := rc_isi (fun _ _ => .base (.str z)) hk
theorem rc_isInt {i : Int} {T : String} {b : Bool} (hk : kitB "int" T = some b) : RC (rIsi K) [.int i, .ty T] H (.bl b) := rc_isi (fun _ _ => .base (.int i)) hk
/-- len of a text -/
theorem rc_lenS {z : Str} (hz : z.length ≤ sizeLine) : RC (fun xs H Q => ∃ a, xs = [.str a] ∧ a.length ≤ sizeLine ∧ Q (.int (a.length : Nat)) H) [.str z] H (.int (z.length : Nat)) := fun H1 _ _ q => ⟨z, rfl, hz, q H1 (Ex.refl H1)⟩
theorem rv_inSign {c : Nat} {z : Str} : RV (fun x y H Q => ∃ (c : Nat) (z : Str), x = .str ⟨#[c]⟩ ∧ y = .str z ∧ Q (.bl (decide (c ∈ z.cps.toList))) H) (.str ⟨#[c]⟩) (.str z) H (.bl (decide (c ∈ z.cps.toList))) := fun H1 _ _ q => ⟨c, z, rfl, rfl, q H1 (Ex.refl H1)⟩
theorem rv_niSign {c : Nat} {z : Str} : RV (fun x y H Q => ∃ (c : Nat) (z : Str), x = .str ⟨#[c]⟩ ∧ y = .str z ∧ Q (.bl (!decide (c ∈ z.cps.toList))) H) (.str ⟨#[c]⟩) (.str z) H (.bl (!decide (c ∈ z.cps.toList))) := fun H1 _ _ q => ⟨c, z, rfl, rfl, q H1 (Ex.refl H1)⟩
/-- a comprehension over a text -/
theorem el_lcS {z : Str} {tl : TE} {j : Nat} {vs : List Nat} {t : TT} (f : Nat → Bool) (v : Nat → V) (h : Ev tl σ H (.str z)) (hz : z.cps.size ≤ 40000) (hw : ∀ x, wipe ((wipe σ vs).set j (some x)) vs = wipe σ vs)
    (ht : ∀ (i : Nat) (c : Nat) H1, Ex H H1 → z.cps[i]? = some c → EvT t ((wipe σ vs).set j (some (.str ⟨#[c]⟩))) H1 (f i)) (he : ∀ (i : Nat) (c : Nat) H1, Ex H H1 → z.cps[i]? = some c → f i = true → Ev te ((wipe σ vs).set j (some (.str ⟨#[c]⟩))) H1 (v i)) :
    EvL (tLc (iStr tl) (gName j) t te vs) σ H (given z.cps.size f v) := fun H0 e Q q => h H0 e _ fun H1 e1 => ⟨z, rfl, fun Dl hD =>
  lc_it walk_str (Cw H1 f v Dl) ⟨hD, Ex.new hD, upd_same⟩ (fun _ _ _ _ => trivial) (fun i x H' H2 hi p y => by
    obtain ⟨rfl, c, hc, rfl⟩ := y
    exact ⟨hw _, cw_turn p (by omega) (ht i c H1 (e.trans e1) hc) (fun hf => he i c H1 (e.trans e1) hc hf)⟩)
    (fun H' p => q Dl H' (fresh_back e1 p.1) (e1.trans p.2.1) p.2.2)⟩
/-- all of a new list of bools -/
theorem ev_all {bs : List Bool} (h : EvL te σ H (bs.map V.bl)) : Ev (tCB (rAll K) (tCons te tNil)) σ H (.bl (bs.all id)) := fun H1 e Q q =>
  h H1 e _ fun p H2 _ e2 hp => ⟨p, bs, rfl, sq_of hp, q H2 e2⟩
/-- given, no test -/
theorem given_all {n : Nat} {v : Nat → V} : given n (fun _ => true) v = (List.range n).map v := by
  unfold given
  rw [List.filter_eq_self.mpr (fun _ _ => rfl)]
theorem et_nil : EvT tYes σ H true := fun H1 _ _ q => q H1 (Ex.refl H1)
theorem range_map {α : Type} (xs : List α) (d : α) (v : α → V) : (List.range xs.length).map (fun i => v (xs.getD i d)) = xs.map v := by
  refine List.ext_getElem? fun i => ?_
  rw [List.getElem?_map, List.getElem?_map]
  by_cases hi : i < xs.length
  · rw [List.getElem?_range hi, List.getElem?_eq_getElem hi]
    show some (v (xs.getD i d)) = some (v xs[i])
    rw [List.getD_eq_getElem?_getD, List.getElem?_eq_getElem hi]
    rfl
  · rw [List.getElem?_eq_none (by rw [List.length_range]; omega), List.getElem?_eq_none (by omega)]
    rfl
/-- [e for c in text] -/
theorem el_lcSm {z : Str} {tl : TE} {j : Nat} {vs : List Nat} (v : Nat → V) (h : Ev tl σ H (.str z)) (hz : z.length ≤ 40000) (hw : ∀ x, wipe ((wipe σ vs).set j (some x)) vs = wipe σ vs)
    (he : ∀ (c : Nat) H1, Ex H H1 → c ∈ z.cps.toList → Ev te ((wipe σ vs).set j (some (.str ⟨#[c]⟩))) H1 (v c)) : EvL (tLc (iStr tl) (gName j) tYes te vs) σ H (z.cps.toList.map v) := by
  have g := el_lcS (te := te) (j := j) (vs := vs) (t := tYes) (fun _ => true) (fun i => v (z.cps.toList.getD i 0)) h hz hw (fun _ _ _ _ _ => et_nil) (fun i c H3 e hc _ => by
    have e1 : z.cps.toList.getD i 0 = c := by
      rw [List.getD_eq_getElem?_getD, Array.getElem?_toList, hc]
      rfl
    rw [e1]
    exact he c H3 e (by rw [List.mem_iff_getElem?]; exact ⟨i, by rw [Array.getElem?_toList, hc]⟩))
  rw [given_all] at g
  have e := range_map z.cps.toList 0 v
  rw [Array.length_toList] at e
  rw [e] at g
  exact g
/-- [e for x in list] -/
theorem el_lcLm {a : Addr} {xs : List V} {tl : TE} {j : Nat} {vs : List Nat} (v : V → V) (h : Ev tl σ H (.ref a)) (hx : SqL K H a xs) (hz : xs.length ≤ 40000) (hw : ∀ x, wipe ((wipe σ vs).set j (some x)) vs = wipe σ vs)
    (he : ∀ (x : V) H1, Ex H H1 → x ∈ xs → Ev te ((wipe σ vs).set j (some x)) H1 (v x)) : EvL (tLc (iList K tl) (gName j) tYes te vs) σ H (xs.map v) := by
  have g := el_lcL (K := K) (te := te) (j := j) (vs := vs) (t := tYes) (fun _ => true) (fun i => v (xs.getD i .non)) h hx hz hw (fun _ _ _ _ _ => et_nil) (fun i x H3 e hc _ => by
    have e1 : xs.getD i .non = x := by
      rw [List.getD_eq_getElem?_getD, hc]
      rfl
    rw [e1]
    exact he x H3 e (List.mem_iff_getElem?.mpr ⟨i, hc⟩))
  rw [given_all, range_map xs .non v] at g
  exact g
/-- [e for x in (a new list)] -/
theorem el_lcNLm {xs : List V} {tl : TE} {j : Nat} {vs : List Nat} (v : V → V) (h : EvL tl σ H xs) (hz : xs.length ≤ 40000) (hw : ∀ x, wipe ((wipe σ vs).set j (some x)) vs = wipe σ vs)
    (he : ∀ (x : V) H1, Ex H H1 → x ∈ xs → Ev te ((wipe σ vs).set j (some x)) H1 (v x)) : EvL (tLc (iList K tl) (gName j) tYes te vs) σ H (xs.map v) := by
  have g := el_lcNL (K := K) (te := te) (j := j) (vs := vs) (t := tYes) (fun _ => true) (fun i => v (xs.getD i .non)) h hz hw (fun _ _ _ _ _ => et_nil) (fun i x H3 e hc _ => by
    have e1 : xs.getD i .non = x := by
      rw [List.getD_eq_getElem?_getD, hc]
      rfl
    rw [e1]
    exact he x H3 e (List.mem_iff_getElem?.mpr ⟨i, hc⟩))
  rw [given_all, range_map xs .non v] at g
  exact g
/-- [e for k in range(n)] -/
theorem el_lcRm {tn : TA} {j : Nat} {vs : List Nat} {n : Int} (v : Nat → V) (h : EvA tn σ H [.int n]) (hn : 0 ≤ n ∧ n ≤ 40000) (hw : ∀ x, wipe ((wipe σ vs).set j (some x)) vs = wipe σ vs)
    (he : ∀ (i : Nat) H1, Ex H H1 → (i : Int) < n → Ev te ((wipe σ vs).set j (some (.int (i : Int)))) H1 (v i)) : EvL (tLc (iRng1 tn) (gName j) tYes te vs) σ H ((List.range n.toNat).map v) := by
  have g := el_lcR1 (te := te) (j := j) (vs := vs) (t := tYes) (fun _ => true) v h hn hw (fun _ _ _ _ => et_nil) (fun i H1 e hi _ => he i H1 e hi)
  rw [given_all] at g
  exact g
/-- a comprehension over a tuple -/
theorem el_lcT {a : Addr} {xs : List V} {tl : TE} {j : Nat} {vs : List Nat} {t : TT} (f : Nat → Bool) (v : Nat → V) (h : Ev tl σ H (.ref a)) (hx : SqT K H a xs) (hz : xs.length ≤ 40000) (hw : ∀ x, wipe ((wipe σ vs).set j (some x)) vs = wipe σ vs)
    (ht : ∀ (i : Nat) (x : V) H1, Ex H H1 → xs[i]? = some x → EvT t ((wipe σ vs).set j (some x)) H1 (f i)) (he : ∀ (i : Nat) (x : V) H1, Ex H H1 → xs[i]? = some x → f i = true → Ev te ((wipe σ vs).set j (some x)) H1 (v i)) :
    EvL (tLc (iTup K tl) (gName j) t te vs) σ H (given xs.length f v) := fun H0 e Q q => h H0 e _ fun H1 e1 => ⟨a, rfl, ⟨xs, ex_t (e.trans e1) hx⟩, fun Dl hD =>
  lc_tup (xs := xs) (Cw H1 f v Dl) ⟨hD, Ex.new hD, upd_same⟩ (fun i H' _ p => ex_t ((e.trans e1).trans p.2.1) hx) (fun i x H' hi p => ⟨hw x, cw_turn p (by have := (List.getElem?_eq_some_iff.mp hi).1; omega) (ht i x H1 (e.trans e1) hi) (fun hf => he i x H1 (e.trans e1) hi hf)⟩)
    (fun H' p => q Dl H' (fresh_back e1 p.1) (e1.trans p.2.1) p.2.2)⟩
theorem ev_fld {a C dx : Addr} {fs : List (Str × V)} {f : Str} {v : V} (h : Ev ta σ H (.ref a)) (hi : H a = some (.ins C dx fs)) (cl : Cls K C) (n : NoAttr K C f) (l : fs.lookup f = some v) : Ev (tFld K ta f) σ H v := fun H1 e Q q =>
  h H1 e _ fun H2 e2 => ⟨a, C, dx, fs, v, rfl, (e.trans e2) _ _ hi, cl, n, l, q H2 e2⟩
theorem ev_sum {ns : List Int} (h : EvL te σ H (ns.map V.int)) : Ev (tCB (rSum K) (tCons te tNil)) σ H (.int ns.sum) := fun H1 e Q q =>
  h H1 e _ fun p H2 _ e2 hp => ⟨p, ns, rfl, sq_of hp, q H2 e2⟩
theorem ev_maxD {ns : List Int} {d : Int} (h : EvL te σ H (ns.map V.int)) : Ev (tCKw (FsR.rMaxD K) (tCons te tNil) (tCons (tC (.int d)) tNil)) σ H (.int (FsR.maxDef d ns)) := fun H1 e Q q =>
  h H1 e _ fun p H2 _ e2 hp => ⟨p, ns, d, rfl, rfl, sq_of hp, q H2 e2⟩
theorem ev_lenT {a : Addr} {xs : List V} (h : Ev ta σ H (.ref a)) (hx : SqT K H a xs) : Ev (tCB (fun xs H Q => ∃ p ys, xs = [V.ref p] ∧ (SqL K H p ys ∨ SqT K H p ys) ∧ Q (.int ys.length) H) (tCons ta tNil)) σ H (.int (xs.length : Int)) := fun H1 e Q q =>
  h H1 e _ fun H2 e2 => ⟨a, xs, rfl, .inr (ex_t (e.trans e2) hx), q H2 e2⟩
theorem rc_isiOwn {C : Addr} {t : Value} {b : Bool} (ht : ∀ H1, Ex H H1 → TyX K H1 x t) (hk : PySem.W.kitOne K t (.ref C) = some b) : RC (rIsi K) [x, .ref C] H (.bl b) := fun H1 e Q q =>
  ⟨x, .ref C, t, .ref C, b, rfl, .own C, ht H1 e, hk, q H1 (Ex.refl H1)⟩
theorem range_ys {xs ys : List V} (hl : ys.length = xs.length) : (List.range xs.length).map (fun i => ys.getD i .non) = ys := by
  have e := range_map ys .non (fun y => y)
  rw [List.map_id', hl] at e
  exact e
/-- comprehensions, the result told by its items -/
theorem el_lcNLy {xs ys : List V} {tl : TE} {j : Nat} {vs : List Nat} (h : EvL tl σ H xs) (hz : xs.length ≤ 40000) (hw : ∀ x, wipe ((wipe σ vs).set j (some x)) vs = wipe σ vs) (hl : ys.length = xs.length)
    (he : ∀ (i : Nat) (x y : V) H1, Ex H H1 → xs[i]? = some x → ys[i]? = some y → Ev te ((wipe σ vs).set j (some x)) H1 y) : EvL (tLc (iList K tl) (gName j) tYes te vs) σ H ys := by
  have g := el_lcNL (K := K) (te := te) (j := j) (vs := vs) (t := tYes) (fun _ => true) (fun i => ys.getD i .non) h hz hw (fun _ _ _ _ _ => et_nil) (fun i x H3 e hc _ => by
    have hi := (List.getElem?_eq_some_iff.mp hc).1
    have hy : ys[i]? = some (ys.getD i .non) := by rw [List.getD_eq_getElem?_getD, List.getElem?_eq_getElem (by omega)]; rfl
    exact he i x _ H3 e hc hy)
  rw [given_all, range_ys hl] at g
  exact g
theorem el_lcLy {a : Addr} {xs ys : List V} {tl : TE} {j : Nat} {vs : List Nat} (h : Ev tl σ H (.ref a)) (hx : SqL K H a xs) (hz : xs.length ≤ 40000) (hw : ∀ x, wipe ((wipe σ vs).set j (some x)) vs = wipe σ vs) (hl : ys.length = xs.length)
    (he : ∀ (i : Nat) (x y : V) H1, Ex H H1 → xs[i]? = some x → ys[i]? = some y → Ev te ((wipe σ vs).set j (some x)) H1 y) : EvL (tLc (iList K tl) (gName j) tYes te vs) σ H ys := by
  have g := el_lcL (K := K) (te := te) (j := j) (vs := vs) (t := tYes) (fun _ => true) (fun i => ys.getD i .non) h hx hz hw (fun _ _ _ _ _ => et_nil) (fun i x H3 e hc _ => by
    have hi := (List.getElem?_eq_some_iff.mp hc).1
    have hy : ys[i]? = some (ys.getD i .non) := by rw [List.getD_eq_getElem?_getD, List.getElem?_eq_getElem (by omega)]; rfl
    exact he i x _ H3 e hc hy)
  rw [given_all, range_ys hl] at g
  exact g
theorem el_lcTy {a : Addr} {xs ys : List V} {tl : TE} {j : Nat} {vs : List Nat} (h : Ev tl σ H (.ref a)) (hx : SqT K H a xs) (hz : xs.length ≤ 40000) (hw : ∀ x, wipe ((wipe σ vs).set j (some x)) vs = wipe σ vs) (hl : ys.length = xs.length)
    (he : ∀ (i : Nat) (x y : V) H1, Ex H H1 → xs[i]? = some x → ys[i]? = some y → Ev te ((wipe σ vs).set j (some x)) H1 y) : EvL (tLc (iTup K tl) (gName j) tYes te vs) σ H ys := by
  have g := el_lcT (K := K) (te := te) (j := j) (vs := vs) (t := tYes) (fun _ => true) (fun i => ys.getD i .non) h hx hz hw (fun _ _ _ _ _ => et_nil) (fun i x H3 e hc _ => by
    have hi := (List.getElem?_eq_some_iff.mp hc).1
    have hy : ys[i]? = some (ys.getD i .non) := by rw [List.getD_eq_getElem?_getD, List.getElem?_eq_getElem (by omega)]; rfl
    exact he i x _ H3 e hc hy)
  rw [given_all, range_ys hl] at g
  exact g
end
end FsE

set_option Elab.async false
set_option linter.all false
set_option maxRecDepth 100000
set_option maxHeartbeats 2000000
namespace FsC
open PySem L2 Evl ClX FsR
/-- a def of the module that may be called by its name -/
structure CalX (P : Program) (w : World) (K : PySem.W.Frag) (mg : Str → Option Value) (base : Heap) (CX : CXT) (k : Nat) (x : Str) (sp : Sp) : Prop where
  ex : ∃ (f : Addr) (fd : FuncData) (ps : List Str), FnOk P w K mg base CX k f fd ps sp ∧ mg x = some (.ref f) ∧ PySem.W.keepIn K (.ref f) = true ∧ Binds K fd ps []
/-- C.m, a staticmethod of the class at C -/
structure StaX (P : Program) (w : World) (K : PySem.W.Frag) (mg : Str → Option Value) (base : Heap) (CX : CXT) (k : Nat) (C : Addr) (m : Str) (sp : Sp) : Prop where
  ex : ∃ (p f : Addr) (mc : Value) (fd : FuncData) (ps : List Str), CRead K C mc ∧ SMet K C mc m p f ∧ FnOk P w K mg base CX k f fd ps sp ∧ Binds K fd ps []
/-- C(..): a class that is made by its name -/
structure MakX (P : Program) (w : World) (K : PySem.W.Frag) (mg : Str → Option Value) (base : Heap) (CX : CXT) (k : Nat) (x : Str) (C : Addr) (sp : Sp) : Prop where
  ex : ∃ (f : Addr) (fd : FuncData) (ps : List Str), Mk K C f ∧ FnOk P w K mg base CX k f fd ps sp ∧ mg x = some (.ref C) ∧ Binds K fd ps []
section
variable {X : Cx} {CX : CXT} {k j : Nat} {C : Addr} {x m : Str} {sp : Sp} {E : L2.St → XK} {p pos apos : Pos} {e o : Expr} {es : List Expr} {ta : TE} {t : TA}
theorem pe_cx (c : CalX X.prog X.w X.K X.mg X.base CX k x sp) (hr : Room j X.A) (hk : k ≤ j) (hg : Gl X x) (hx : ∀ σ, PassesAt CX X σ (E σ)) (ha : PA X (e :: es) t)
    (hdb : (x == ("__debug__" : Str)) = false := by decide) (he : starEach (e :: es) X.env = (false, eval e X.env) :: starEach es X.env := by rfl) (hpl : (backTo pos (starEach es X.env)).any (·.1) = false := by rfl) :
    PE X (.Call (.Name x p) (e :: es) [] pos) (tCallS sp E t) := by
  obtain ⟨f, fd, ps, F, hm, kp, b⟩ := c.ex
  exact pe_callS F (hr.mono hk) hg hm kp b hx ha hdb he hpl
theorem pe_sx {pl : Sem Bool} (c : StaX X.prog X.w X.K X.mg X.base CX k C m sp) (hr : Room j X.A) (hk : k ≤ j) (ho : PE X o ta) (hx : ∀ σ, PassesAt CX X σ (E σ)) (ha : PA X (e :: es) t)
    (hst : starEach (e :: es) X.env = (false, eval e X.env) :: starEach es X.env := by rfl) (hpl : (backTo pos (starEach es X.env)).any (·.1) = false := by rfl)
    (ht : eval (.Call (.Attribute o m apos) (e :: es) [] pos) X.env = (do
      let ov ← eval o X.env
      standAt apos.atName
      let (f, first) ← holding [ov] (getMethod ov m pl)
      callWith pos f first (backTo pos (starEach (e :: es) X.env)) (backToKw pos (keywordEach [] X.env))) := by rfl) :
    PE X (.Call (.Attribute o m apos) (e :: es) [] pos) (tStat C sp E ta t) := by
  obtain ⟨p, f, mc, fd, ps, r, s, F, b⟩ := c.ex
  exact pe_stat (pl := pl) ho r s F (hr.mono hk) b hx ha hst hpl ht
theorem pe_sx0 {pl : Sem Bool} (c : StaX X.prog X.w X.K X.mg X.base CX k C m sp) (hr : Room j X.A) (hk : k ≤ j) (ho : PE X o ta) (hx : ∀ σ, PassesAt CX X σ (E σ))
    (ht : eval (.Call (.Attribute o m apos) [] [] pos) X.env = (do
      let ov ← eval o X.env
      standAt apos.atName
      let (f, first) ← holding [ov] (getMethod ov m pl)
      callWith pos f first (backTo pos (starEach [] X.env)) (backToKw pos (keywordEach [] X.env))) := by rfl) :
    PE X (.Call (.Attribute o m apos) [] [] pos) (tStat C sp E ta tNil) := by
  obtain ⟨p, f, mc, fd, ps, r, s, F, b⟩ := c.ex
  exact pe_stat0 (pl := pl) ho r s F (hr.mono hk) b hx ht
theorem pe_mx {E : XK} (c : MakX X.prog X.w X.K X.mg X.base CX k x C sp) (hr : Room j X.A) (hk : k + 1 ≤ j) (hg : Gl X x) (hx : Passes CX X E) (ha : PA X (e :: es) t)
    (hdb : (x == ("__debug__" : Str)) = false := by decide) (he : starEach (e :: es) X.env = (false, eval e X.env) :: starEach es X.env := by rfl) (hpl : (backTo pos (starEach es X.env)).any (·.1) = false := by rfl) :
    PE X (.Call (.Name x p) (e :: es) [] pos) (tMake C sp [] E t) := by
  obtain ⟨f, fd, ps, M, F, hm, b⟩ := c.ex
  exact pe_make M F (hr.mono hk) hg hm b .nil hx ha hdb he hpl
theorem at0 {X : Cx} {E : L2.St → XK} : ∀ σ, PassesAt CX0 X σ (E σ) := fun _ _ _ _ _ _ _ h => h.elim
/-- what a call within a def that may raise lets out -/
theorem atX {P : Program} {w : World} {X : Cx} {E : XK} (h : Passes (L2.CX P w) X E) : ∀ σ, PassesAt (L2.CX P w) X σ ((fun _ => E) σ) := fun σ => passesAt_of h σ
end
section
variable {σ : L2.St} {H : Hp} {z : V} {sp : Sp} {ta : TA} {vs : List V} {E : L2.St → XK}
theorem ev_cx (h : EvA ta σ H vs) (hs : SpV sp vs H z) : Ev (tCallS sp E ta) σ H z := fun H1 e Q q =>
  h H1 e _ fun H2 e2 => hs H2 (e.trans e2) Q (fun H3 e3 => q H3 (e2.trans e3)) (E σ)
theorem ev_sx {C : Addr} {to : TE} (ho : Ev to σ H (.ref C)) (h : EvA ta σ H vs) (hs : SpV sp vs H z) : Ev (tStat C sp E to ta) σ H z := fun H1 e Q q =>
  ho H1 e _ fun H2 e2 => ⟨rfl, h H2 (e.trans e2) _ fun H3 e3 => hs H3 ((e.trans e2).trans e3) Q (fun H4 e4 => q H4 ((e2.trans e3).trans e4)) (E σ)⟩
theorem el_cx {xs : List V} (h : EvA ta σ H vs) (hs : SpL sp vs H xs) : EvL (tCallS sp E ta) σ H xs := fun H1 e Q q =>
  h H1 e _ fun H2 e2 => hs H2 (e.trans e2) Q (fun p H3 hp e3 h3 => q p H3 (fresh_back e2 hp) (e2.trans e3) h3) (E σ)
end
end FsC

set_option Elab.async false
set_option linter.all false
set_option maxRecDepth 100000
set_option maxHeartbeats 2000000
namespace Fs
open PySem L2 Evl FsE FsC FsR
/-- the parts of a process, as its tuple holds them -/
def PartsAt (C : Addr) (H : Hp) (ps : List V) : Pr → Prop
  | .choice os => OfsAt C H ps os
  | .new n k r => ∃ b, ps = [.str n, .int k, .ref b] ∧ PrAt C H b r
  | .cond l r y n => ∃ b c, ps = [l.v, r.v, .ref b, .ref c] ∧ PrAt C H b y ∧ PrAt C H c n
  | .call n ops => ∃ u, ps = [.str n, .ref u] ∧ H u = some (.tup (ops.map Opd.v))
theorem PartsAt.ex {C : Addr} {H H' : Hp} {ps : List V} {p : Pr} (e : Ex H H') (h : PartsAt C H ps p) : PartsAt C H' ps p := by
  cases p with
  | choice os => exact OfsAt.ex e h
  | new n k r =>
    obtain ⟨b, h1, h2⟩ := h
    exact ⟨b, h1, h2.ex e⟩
  | cond l r y n =>
    obtain ⟨b, c, h1, h2, h3⟩ := h
    exact ⟨b, c, h1, h2.ex e, h3.ex e⟩
  | call n ops =>
    obtain ⟨u, h1, h2⟩ := h
    exact ⟨u, h1, e _ _ h2⟩
theorem PrAt.mk {C : Addr} {H : Hp} {a t : Addr} {ps : List V} {p : Pr} (h1 : InsAt C H a p.kind t p.depth p.size) (h2 : H t = some (.tup ps)) (h3 : PartsAt C H ps p) : PrAt C H a p := by
  cases p with
  | choice os =>
    unfold PrAt
    unfold Pr.kind Pr.depth Pr.size at h1
    exact ⟨t, ps, h1, h2, h3⟩
  | new n k r =>
    unfold PrAt
    unfold Pr.kind Pr.depth Pr.size at h1
    obtain ⟨b, rfl, h4⟩ := h3
    exact ⟨t, b, h1, h2, h4⟩
  | cond l r y n =>
    unfold PrAt
    unfold Pr.kind Pr.depth Pr.size at h1
    obtain ⟨b, c, rfl, h4, h5⟩ := h3
    exact ⟨t, b, c, h1, h2, h4, h5⟩
  | call n ops =>
    unfold PrAt
    unfold Pr.kind Pr.depth Pr.size at h1
    obtain ⟨u, rfl, h4⟩ := h3
    exact ⟨t, u, h1, h2, h4⟩
theorem PrAt.out {C : Addr} {H : Hp} {a : Addr} {p : Pr} (h : PrAt C H a p) : ∃ t ps, InsAt C H a p.kind t p.depth p.size ∧ H t = some (.tup ps) ∧ PartsAt C H ps p := by
  cases p with
  | choice os =>
    unfold PrAt at h
    obtain ⟨t, ps, h1, h2, h3⟩ := h
    exact ⟨t, ps, by unfold Pr.kind Pr.depth Pr.size; exact h1, h2, h3⟩
  | new n k r =>
    unfold PrAt at h
    obtain ⟨t, b, h1, h2, h3⟩ := h
    exact ⟨t, _, by unfold Pr.kind Pr.depth Pr.size; exact h1, h2, b, rfl, h3⟩
  | cond l r y n =>
    unfold PrAt at h
    obtain ⟨t, b, c, h1, h2, h3, h4⟩ := h
    exact ⟨t, _, by unfold Pr.kind Pr.depth Pr.size; exact h1, h2, b, c, rfl, h3, h4⟩
  | call n ops =>
    unfold PrAt at h
    obtain ⟨t, u, h1, h2, h3⟩ := h
    exact ⟨t, _, by unfold Pr.kind Pr.depth Pr.size; exact h1, h2, u, rfl, h3⟩
/-! ### what is contained directly -/
def Ofs.rests : Ofs → List Pr
  | .nil => []
  | .cons _ _ _ _ _ r os => r :: os.rests
def Pr.inner : Pr → List Pr
  | .choice os => os.rests
  | .new _ _ r => [r]
  | .cond _ _ y n => [y, n]
  | .call _ _ => []
/-- a list of processes, by their addresses -/
def InnAt (C : Addr) (H : Hp) : List V → List Pr → Prop
  | [], [] => True
  | x :: xs, p :: ps => (∃ a, x = .ref a ∧ PrAt C H a p) ∧ InnAt C H xs ps
  | _, _ => False
theorem InnAt.ex {C : Addr} {H H' : Hp} (e : Ex H H') : ∀ {xs : List V} {ps : List Pr}, InnAt C H xs ps → InnAt C H' xs ps
  | [], [], _ => True.intro
  | x :: xs, p :: ps, ⟨⟨a, h1, h2⟩, h3⟩ => ⟨⟨a, h1, h2.ex e⟩, InnAt.ex e h3⟩
  | [], _ :: _, h => h.elim
  | _ :: _, [], h => h.elim
theorem InnAt.get {C : Addr} {H : Hp} : ∀ {xs : List V} {ps : List Pr} {x : V}, InnAt C H xs ps → x ∈ xs → ∃ a p, x = .ref a ∧ PrAt C H a p ∧ p ∈ ps
  | [], _, _, _, hx => nomatch hx
  | y :: xs, [], _, h, _ => h.elim
  | y :: xs, p :: ps, x, ⟨⟨a, h1, h2⟩, h3⟩, hx => by
    rcases List.mem_cons.mp hx with rfl | hx
    · exact ⟨a, p, h1, h2, List.mem_cons_self⟩
    · obtain ⟨b, q, k1, k2, k3⟩ := InnAt.get h3 hx
      exact ⟨b, q, k1, k2, List.mem_cons_of_mem _ k3⟩
theorem InnAt.length {C : Addr} {H : Hp} : ∀ {xs : List V} {ps : List Pr}, InnAt C H xs ps → xs.length = ps.length
  | [], [], _ => rfl
  | x :: xs, p :: ps, ⟨_, h⟩ => congrArg (· + 1) (InnAt.length h)
  | [], _ :: _, h => h.elim
  | _ :: _, [], h => h.elim
theorem Ofs.rests_len : ∀ os : Ofs, os.rests.length = os.len
  | .nil => rfl
  | .cons _ _ _ _ _ r os => congrArg (· + 1) (Ofs.rests_len os)
/-- the greatest depth, the sum of the sizes -/
theorem Ofs.sum_eq : ∀ os : Ofs, os.sum = (os.rests.map Pr.size).sum
  | .nil => rfl
  | .cons _ _ _ _ _ r os => by
    unfold Ofs.sum Ofs.rests
    rw [List.map_cons, List.sum_cons, Ofs.sum_eq os]
mutual
theorem Pr.depth_pos : ∀ p : Pr, 1 ≤ p.depth
  | .choice os => by
    unfold Pr.depth
    have := Ofs.depth_nn os
    omega
  | .new _ _ r => by
    unfold Pr.depth
    have := Pr.depth_pos r
    omega
  | .cond _ _ y n => by
    unfold Pr.depth
    have := Pr.depth_pos y
    have := Pr.depth_pos n
    omega
  | .call _ _ => by
    unfold Pr.depth
    omega
theorem Ofs.depth_nn : ∀ os : Ofs, 0 ≤ os.depth
  | .nil => by
    unfold Ofs.depth
    omega
  | .cons _ _ _ _ _ r os => by
    unfold Ofs.depth
    have := Pr.depth_pos r
    omega
end
theorem maxFrom_ge : ∀ (ys : List Int) (y : Int), maxFrom y ys = max y (maxFrom 0 ys) ∨ (y < 0)
  | [], y => by
    unfold maxFrom
    simp only [List.foldl_nil]
    omega
  | z :: zs, y => by
    have h1 := maxFrom_ge zs (max y z)
    have h2 := maxFrom_ge zs (max 0 z)
    unfold maxFrom at *
    simp only [List.foldl_cons]
    omega
theorem Ofs.depth_eq : ∀ os : Ofs, maxDef 0 (os.rests.map Pr.depth) = os.depth
  | .nil => rfl
  | .cons _ _ _ _ _ r os => by
    unfold Ofs.rests Ofs.depth
    rw [List.map_cons]
    show maxFrom r.depth (os.rests.map Pr.depth) = max r.depth os.depth
    have ih := Ofs.depth_eq os
    have hr := Pr.depth_pos r
    cases hr2 : os.rests.map Pr.depth with
    | nil =>
      rw [hr2] at ih
      have e0 : (0 : Int) = os.depth := ih
      unfold maxFrom
      simp only [List.foldl_nil]
      omega
    | cons y ys =>
      rw [hr2] at ih
      have e0 : maxFrom y ys = os.depth := ih
      have hy : 1 ≤ y := by
        have : y ∈ os.rests.map Pr.depth := by rw [hr2]; exact List.mem_cons_self
        obtain ⟨q, _, rfl⟩ := List.mem_map.mp this
        exact Pr.depth_pos q
      have h1 := maxFrom_ge ys y
      have h2 := maxFrom_ge ys (max r.depth y)
      show maxFrom (max r.depth y) ys = _
      omega
theorem Pr.depth_eq (p : Pr) : 1 + maxDef 0 (p.inner.map Pr.depth) = p.depth := by
  cases p with
  | choice os =>
    unfold Pr.inner Pr.depth
    rw [Ofs.depth_eq]
  | new n k r =>
    unfold Pr.depth
    rfl
  | cond l r y n =>
    unfold Pr.depth
    rfl
  | call n ops =>
    unfold Pr.depth
    rfl
def Pr.own : Pr → Int
  | .choice os => max 1 (os.len : Int)
  | _ => 1
theorem Pr.size_eq (p : Pr) : p.own + (p.inner.map Pr.size).sum = p.size := by
  cases p with
  | choice os =>
    unfold Pr.inner Pr.size Pr.own
    rw [Ofs.sum_eq]
  | new n k r =>
    unfold Pr.size Pr.own Pr.inner
    simp
  | cond l r y n =>
    unfold Pr.size Pr.own Pr.inner
    simp
  | call n ops =>
    unfold Pr.size Pr.own Pr.inner
    simp
theorem OfsAt.len {C : Addr} {H : Hp} : ∀ {os : Ofs} {ps : List V}, OfsAt C H ps os → ps.length = os.len
  | .nil, ps, h => by
    unfold OfsAt at h
    rw [h]
    rfl
  | .cons c s m op ns r os, ps, h => by
    unfold OfsAt at h
    obtain ⟨o, u, b, qs, h1, _, _, _, h5⟩ := h
    rw [h1]
    exact congrArg (· + 1) (OfsAt.len h5)
/-- the rests of the offers -/
theorem OfsAt.rests {C : Addr} {H : Hp} : ∀ {os : Ofs} {ps : List V}, OfsAt C H ps os → ∃ rs : List V, rs.length = ps.length ∧ InnAt C H rs os.rests ∧
    ∀ (i : Nat) (x : V), ps[i]? = some x → ∃ (o : Addr) (c : Str) (s m : Int) (op : Opd) (u : Addr) (y : V), x = .ref o ∧ rs[i]? = some y ∧ H o = some (.tup [.str c, .int s, .int m, op.v, .ref u, y])
  | .nil, ps, h => by
    unfold OfsAt at h
    subst h
    exact ⟨[], rfl, True.intro, fun i x hx => by simp at hx⟩
  | .cons c s m op ns r os, ps, h => by
    unfold OfsAt at h
    obtain ⟨o, u, b, qs, rfl, h2, h3, h4, h5⟩ := h
    obtain ⟨rs, k1, k2, k3⟩ := OfsAt.rests h5
    refine ⟨.ref b :: rs, congrArg (· + 1) k1, ⟨⟨b, rfl, h4⟩, k2⟩, fun i x hx => ?_⟩
    cases i with
    | zero =>
      have e : V.ref o = x := by simpa using hx
      subst e
      exact ⟨o, c, s, m, op, u, .ref b, rfl, rfl, h2⟩
    | succ i =>
      obtain ⟨o', c', s', m', op', u', y', z1, z2, z3⟩ := k3 i x (by simpa using hx)
      exact ⟨o', c', s', m', op', u', y', z1, by simpa using z2, z3⟩
/-- rs: what a process with these parts contains directly -/
def InnOf (C : Addr) (H : Hp) (ps rs : List V) : Pr → Prop
  | .choice os => rs.length = ps.length ∧ InnAt C H rs os.rests ∧
    ∀ (i : Nat) (x : V), ps[i]? = some x → ∃ (o : Addr) (c : Str) (s m : Int) (op : Opd) (u : Addr) (y : V), x = .ref o ∧ rs[i]? = some y ∧ H o = some (.tup [.str c, .int s, .int m, op.v, .ref u, y])
  | .new n k r => ∃ b, ps = [.str n, .int k, .ref b] ∧ rs = [.ref b] ∧ PrAt C H b r
  | .cond l r y n => ∃ b c, ps = [l.v, r.v, .ref b, .ref c] ∧ rs = [.ref b, .ref c] ∧ PrAt C H b y ∧ PrAt C H c n
  | .call n ops => ∃ u, ps = [.str n, .ref u] ∧ rs = [] ∧ H u = some (.tup (ops.map Opd.v))
theorem InnOf.ex {C : Addr} {H H' : Hp} {ps rs : List V} {p : Pr} (e : Ex H H') (h : InnOf C H ps rs p) : InnOf C H' ps rs p := by
  cases p with
  | choice os =>
    obtain ⟨h1, h2, h3⟩ := h
    refine ⟨h1, h2.ex e, fun i x hx => ?_⟩
    obtain ⟨o, c, s, m, op, u, y, z1, z2, z3⟩ := h3 i x hx
    exact ⟨o, c, s, m, op, u, y, z1, z2, e _ _ z3⟩
  | new n k r =>
    obtain ⟨b, h1, h2, h3⟩ := h
    exact ⟨b, h1, h2, h3.ex e⟩
  | cond l r y n =>
    obtain ⟨b, c, h1, h2, h3, h4⟩ := h
    exact ⟨b, c, h1, h2, h3.ex e, h4.ex e⟩
  | call n ops =>
    obtain ⟨u, h1, h2, h3⟩ := h
    exact ⟨u, h1, h2, e _ _ h3⟩
theorem PartsAt.inn {C : Addr} {H : Hp} {ps : List V} {p : Pr} (h : PartsAt C H ps p) : ∃ rs, InnOf C H ps rs p := by
  cases p with
  | choice os =>
    obtain ⟨rs, h1, h2, h3⟩ := OfsAt.rests h
    exact ⟨rs, h1, h2, h3⟩
  | new n k r =>
    obtain ⟨b, h1, h2⟩ := h
    exact ⟨[.ref b], b, h1, rfl, h2⟩
  | cond l r y n =>
    obtain ⟨b, c, h1, h2, h3⟩ := h
    exact ⟨[.ref b, .ref c], b, c, h1, rfl, h2, h3⟩
  | call n ops =>
    obtain ⟨u, h1, h2⟩ := h
    exact ⟨[], u, h1, rfl, h2⟩
theorem InnOf.at {C : Addr} {H : Hp} {ps rs : List V} {p : Pr} (h : InnOf C H ps rs p) : InnAt C H rs p.inner := by
  cases p with
  | choice os => exact h.2.1
  | new n k r =>
    obtain ⟨b, _, rfl, h3⟩ := h
    exact ⟨⟨b, rfl, h3⟩, True.intro⟩
  | cond l r y n =>
    obtain ⟨b, c, _, rfl, h3, h4⟩ := h
    exact ⟨⟨b, rfl, h3⟩, ⟨c, rfl, h4⟩, True.intro⟩
  | call n ops =>
    obtain ⟨u, _, rfl, _⟩ := h
    exact True.intro
theorem InnAt.at_ {C : Addr} {H : Hp} : ∀ {xs : List V} {ps : List Pr} {i : Nat} {x : V}, InnAt C H xs ps → xs[i]? = some x → ∃ a p, x = .ref a ∧ PrAt C H a p ∧ ps[i]? = some p
  | [], _, _, _, _, hx => by simp at hx
  | y :: xs, [], _, _, h, _ => h.elim
  | y :: xs, p :: ps, 0, x, ⟨⟨a, h1, h2⟩, h3⟩, hx => by
    have e : y = x := by simpa using hx
    subst e
    exact ⟨a, p, h1, h2, rfl⟩
  | y :: xs, p :: ps, i + 1, x, ⟨_, h3⟩, hx => by
    obtain ⟨b, q, k1, k2, k3⟩ := InnAt.at_ (i := i) h3 (by simpa using hx)
    exact ⟨b, q, k1, k2, by simpa using k3⟩
end Fs

set_option Elab.async false
set_option linter.all false
set_option maxRecDepth 100000
set_option maxHeartbeats 4000000
/-! An own error over ValueError, by a class between: its __init__ calls super().__init__ with a fixed text, then stores its one argument as the field field. -/
namespace FsB
open PySem PySem.W PySem.Calls PyProof.Rows PySem.HandSPX
abbrev eS : Scope := { kind := .function, names := [(PySem.Str.ofString "self", .local), (PySem.Str.ofString "field", .local), (PySem.Str.ofString "__class__", .free), (PySem.Str.ofString "super", .globalImplicit)], isGenerator := false, isCoroutine := false, more := [] }
abbrev eA (p1 p2 : Pos) : Arguments := { posonlyargs := [], args := [{ arg := "self", annotation := none, pos := p1 }, { arg := "field", annotation := none, pos := p2 }], vararg := none, kwonlyargs := [], kw_defaults := [], kwarg := none, defaults := [] }
abbrev eB (msg : Expr) (p0 p1 p2 p3 p4 p5 p6 p7 p8 : Pos) : List Stmt := [.Expr (.Call (.Attribute (.Call (.Name "super" p0) [] [] p1) "__init__" p2) [msg] [] p3) p4, .Assign [.Attribute (.Name "self" p5) "field" p6] (.Name "field" p7) p8]
/-- the message -/
abbrev eM (z : Str) (q0 : Pos) : Expr := .Constant (.str z) 0 q0
abbrev mroVE : List Value := [.type "ValueError", .type "Exception", .type "BaseException", .type "object"]
/-- what the written part says of the class at C, and of its __init__, at fI -/
structure ErrTxt (prog : Program) (K : Frag) (mg : Str → Option Value) (x : Str) (C fI : Addr) : Prop where
  gC : mg x = some (.ref C)
  cls : ∃ nm q N bs bm sn sub ab col dd k0 k1 k2 k3 k5, K.lookup C = some (excClassObj nm q C N bs bm true sn sub ab col dd k0 k1 k2 k3 k5 "ValueError.__new__") ∧ refsVE bm = true
  ei : excInitIn K C mroVE "ValueError.__new__" = true
  sa : findIn K (.ref C) "__setattr__" = some (some (.builtin "object.__setattr__"))
  noN : findIn K (.ref C) "field" = some none
  iC : findIn K (.ref C) "__init__" = some (some (.ref fI))
  tC : typeIn K (.ref fI) = some (.type "function")
  kC : keepIn K (.ref C) = true
  exC : subIn K (.ref C) (.type "BaseException") = some true
  veC : subIn K (.ref C) (.type "ValueError") = some true
  tyC : typeIn K (.ref C) = some (.type "type")
  slf : mroIn K C (.ref C) = some true
  sup : ks_superIn K C C "__init__" = some (some (.builtin "ValueError.__init__"))
  opq : nsIn K cStatics "thirdparty.any" = some none
  gs : mg "super" = none
  top : (prog.main.scope.names.lookup ("super" : Str)).isSome = false
  fn : ∃ (oc : Value) (od an : Option Addr) (kV doc pm ct : Value) (osl : Array (Option Value)) (qual : Str) (cda cc : Addr) (ccl cl : Value) (cdd cld : Option Addr) (ccs csl : Array (Option Value)) (vs : Array Value) (file : Str) (tf : Tok) (zM : Str) (p1 p2 q0 r0 r1 r2 r3 r4 r5 r6 r7 r8 : Pos),
    K.lookup fI = some ⟨oc, od, .func (ksFn "__init__" qual (eA p1 p2) (eB (eM zM q0) r0 r1 r2 r3 r4 r5 r6 r7 r8) eS .none kV doc pm an (.ref cda) ct cc), osl⟩ ∧ codeIn K (.ref cda) qual = true ∧
    K.lookup cda = some ⟨ccl, cdd, .fields vs, ccs⟩ ∧ vs[2]? = some (.str file tf) ∧ ((prog.main.file : Str) == file) = true ∧ K.lookup cc = some ⟨cl, cld, .cell (some (.ref C)), csl⟩ ∧ zM.length ≤ 1000 ∧ (r2.endLine == r3.line) = true
theorem call_line {o : Expr} {name : Str} {apos pos : Pos} {a : Expr} {env : Env} (hp : (apos.endLine == pos.line) = true) (hs : starEach [a] env = (false, eval a env) :: starEach [] env) : eval (.Call (.Attribute o name apos) [a] [] pos) env = (do
      let ov ← attributeBase o name env (eval o env)
      standAt apos.atName
      let (f, first) ← holding [ov] (getMethod ov name (do return (← importBound o env).getD true))
      callWith pos f first (backTo pos (starEach [a] env)) []) := by
  show (do
      let ov ← attributeBase o name env (eval o env)
      standAt apos.atName
      methodCall o name apos pos env ov 1 (backTo pos (starEach [a] env)) []) = _
  have e : methodCallForm 1 (backTo pos (starEach [a] env)) [] = true := by
    rw [hs]
    rfl
  unfold methodCall
  rw [e]
  unfold methodCallPos calleeOf
  rw [hp]
  simp only [Bool.not_true, Bool.false_or, if_true, pure_bind]
/-- what __init__ leaves of a fresh exception at x, over the heap h -/
structure BtEnd (h h' : Heap) (x C dx t1 : Addr) (v : Value) : Prop where
  keep : ∀ b o, h.get? b = some o → h'.get? b = some o
  obj : h'.get? x = some { cls := .ref C, dict := some dx, data := .fields #[.ref t1, .none, .none, .none, .bool false, .none] }
  dbig : h.objs.size ≤ dx
  dne : dx ≠ x
  ns : h'.Ns1 dx (fun y => if y = "field" then some v else none)
theorem str_len2 (a b : Str) : (a ++ b).length = a.length + b.length := by
  show (a.cps ++ b.cps).size = _
  rw [Array.size_append]
  rfl
theorem len1 (v : Value) : [v].length ≤ sizeLine := by
  rw [sizeLine_eq]
  exact (by decide : 1 ≤ 16777216)
section
variable {prog : Program} {w : World} {A : Around} {E : Value → Shared → Prop} {R : Result → Shared → Prop} {s : Shared} {K : Frag} {mg : Str → Option Value} {x0 : Str} {C fI : Addr}
theorem bt_init (T : ErrTxt prog K mg x0 C fI) {hp : Heap} {x t0 : Addr} {v : Value} (X : K.In hp) (G : hp.Ns mainGlobals mg) (Bl : ∃ mb, hp.Ns builtinsNs mb ∧ mb "super" = some (.type "super")) (hlim : s.heap.NoLimit)
    (k : ∀ b o, hp.get? b = some o → s.heap.get? b = some o) (hsz : hp.objs.size ≤ s.heap.objs.size) (hx : s.heap.get? x = some (excO C t0)) (hxn : hp.get? x = none) (hroom : A.depth < recursionLimit)
    (hq : ∀ h' tk' dx t1, BtEnd hp h' x C dx t1 v → R (.ok (.ret .none)) { s with heap := h', toks := tk' }) :
    codeAny (model prog w) A (.call (.ref fI) ⟨[.ref x, v], []⟩) R s := by
  obtain ⟨oc, od, an, kV, doc, pm, ct, osl, qual, cda, cc, ccl, cl, cdd, cld, ccs, csl, vs, file, tf, zM, p1, p2, q0, r0, r1, r2, r3, r4, r5, r6, r7, r8, ho, hcd, hcode, hvs, hfile, hcell, hM, hline⟩ := T.fn
  obtain ⟨nm, q, N, bs, bm, sn, sub, ab, col, dd, k0, k1, k2, k3, k5, hC, hbm⟩ := T.cls
  obtain ⟨mb, hb, hmb⟩ := Bl
  have hcl : clsIn K C = some { name := nm, bases := bs, mro := .ref C :: bm, ns := N, qualname := q, hasDict := true, slotNames := sn, subclasses := sub, abstract := ab, collection := col, hasDel := false } := by unfold clsIn; rw [hC] <;> rfl
  have Xs : K.In s.heap := X.keeps k
  have noc : ∀ y ∈ eS.names, y.2 ≠ .cell := by decide +kernel
  have locs : ∀ y ∈ [(("self" : Str), Value.ref x), ("field", v)], eS.names.lookup y.1 = some .local := fun y hy => by
    rcases List.mem_cons.mp hy with rfl | hy
    · rfl
    · rw [List.mem_singleton.mp hy]
      rfl
  refine ks_codeAny_call_defAt (body := eB (eM zM q0) r0 r1 r2 r3 r4 r5 r6 r7 r8) (binds := [("self", .ref x), ("field", v)]) hroom (Xs _ _ ho) rfl hlim (codeRec_of Xs hcd) rfl (BindsTo.of_eq (by first | rfl | with_unfolding_all rfl)) noc locs (fun h₁ hns hk₁ => ?_) rfl rfl rfl
  have Fr1 : Fr hp s.heap.objs.size h₁ (fun y => [(("self" : Str), Value.ref x), ("field", v)].reverse.lookup y) := ⟨hns, fun b o e => hk₁ b o (k b o e), hsz⟩
  have N1 : News hp s.heap.objs.size h₁ [(x, excObj C t0 none .none)] := fun p hp' => by
    rw [List.mem_singleton.mp hp']
    exact ⟨hk₁ _ _ hx, Nat.ne_of_lt (Heap.lt_size hx), hxn⟩
  show _root_.PySem.wpAt (model prog w) _ (.func _ (ksEnv qual eS s.heap.objs.size fI (.ref cda) cc)) (execs (eB (eM zM q0) r0 r1 r2 r3 r4 r5 r6 r7 r8) (ksEnv qual eS s.heap.objs.size fI (.ref cda) cc)) _ _ _
  refine ks_wpAt_execs_cons (ks_wpAt_Expr_any (ks_wpAt_MethodCall ?_ (call_line hline rfl)))
  generalize hE : (fun e s' => wpAny (model prog w) _ (leaving _ e) (fun x s'' => R (Except.error e) s'') (fun e' s'' => R (Except.error e') s'') s') = EE
  have X1 : K.In h₁ := X.keeps Fr1.keep
  -- super()
  refine ks_wpAt_super_base (env := ksEnv qual eS s.heap.objs.size fI (.ref cda) cc) rfl rfl rfl rfl (X1 _ _ ho) rfl rfl rfl (X1 _ _ hcode) rfl hvs hfile T.top ?_
  refine ks_loadName_global rfl rfl (loadGlobal_builtin (env := ksEnv qual eS s.heap.objs.size fI (.ref cda) cc) (G.keeps Fr1.keep) T.gs (hb.keeps Fr1.keep) hmb ⟨rfl, ?_⟩)
  refine wpAny_loadName_free rfl rfl rfl ⟨_, X1 _ _ hcell, rfl⟩ ?_
  refine wpAny_loadName_local (v := .ref x) rfl rfl hns rfl ?_
  refine ks_wpAny_isType_cls (X1 _ _ hC) rfl ⟨rfl, ?_⟩
  refine ks_wpAny_call_super (X1 _ _ hC) rfl (hk₁ _ _ hx) rfl (fun c z => by cases z) (looks_mroIn X1 T.slf) (fun h2 hso k2 => ?_)
  obtain ⟨F2, N2, l2⟩ := ks_newsPush (s := ⟨h₁, s.gens, s.drawn, s.toks + 2, s.os⟩) Fr1 N1 rfl hso k2
  -- its __init__, bound
  refine kxs_method kxs_ValueError F2 X N2 (List.mem_cons_self ..) (InstAt.of_exc0 (c2 := .none) (t := t0) N2 (List.mem_cons_of_mem _ (List.mem_cons_self ..))) T.opq T.sup T.veC rfl (fun u h3 F3 N3 l3 => ?_)
  refine kxs_callWith1 N3 (List.mem_cons_self ..) ?_ rfl rfl
  refine Calls.spliced_cons ?_
  show wpAny _ _ (eval (eM zM q0) (ksEnv qual eS s.heap.objs.size fI (.ref cda) cc)) _ _ _
  refine Calls.Constant_str ?_
  refine Calls.spliced_nil ⟨kxs_at N3 (List.mem_cons_self ..), ?_⟩
  have nx1 : h₁.objs.size ≠ x := fun z => Nat.lt_irrefl _ (z ▸ l2 _ (List.mem_cons_self ..) : x < x)
  have nx2 : u ≠ x := fun z => Nat.lt_irrefl _ (z ▸ l3 _ (List.mem_cons_of_mem _ (List.mem_cons_self ..)) : x < x)
  refine kxs_call F3 X N3 PySem.F.excBase_ValueError T.ei (List.mem_cons_self ..) (.tail nx2 (.tail nx1 (.head fun p hp' => by cases hp'))) (len1 _) (fun t' h4 F4 N4 l4 => ?_)
  -- self.field = field
  have X4 : K.In h4 := X.keeps F4.keep
  have hx4 : h4.get? x = some (excO C t') := (N4 (x, excObj C t' none .none) (List.mem_cons_of_mem _ (List.mem_cons_of_mem _ (List.mem_cons_of_mem _ (List.mem_cons_self ..))))).1
  refine wpAt_of_wpAny (wpAny_execs_cons (plainObj_wpAny_Assign_Attribute ?_))
  refine wpAny_Name (wpAny_loadName_local (v := v) rfl rfl F4.ns rfl ?_) rfl
  refine wpAny_Name (wpAny_loadName_local (v := .ref x) rfl rfl F4.ns rfl ?_) rfl
  refine set_plain X4 (ox := excO C t') (od := none) ⟨hx4, rfl, rfl, trivial⟩ T.sa ?_
  refine exc_osa X4 hx4 hcl (show refsVE (.ref C :: bm) = true from hbm) rfl T.noN (fun h5 tk5 dx k5 dn dne hx5 hn5 => ?_)
  have zz : s.heap.objs.size < h4.objs.size := F4.ns.lt
  exact wpAny_execs_nil (hq h5 tk5 dx t' ⟨fun b o e => k5 b o (fun z => by rw [z, hxn] at e; cases e) (F4.keep b o e), hx5, Nat.le_trans hsz (Nat.le_trans (Nat.le_of_lt zz) dn), dne, hn5⟩)
end
end FsB

set_option Elab.async false
set_option linter.all false
set_option maxRecDepth 100000
set_option maxHeartbeats 2000000
namespace Fs
open PySem L2 Evl FsE FsC
def topS (i : Nat) : Stmt := PySem.Challenge.pw_fullseats_k03_new_if_and_call_built.main.body.getD i (.Pass ⟨0, 0, 0, 0⟩)
/-! ### names -/
def lettersS : Str := "abcdefghijklmnopqrstuvwxyz"
def digitsS : Str := "0123456789"
def reservedV : List V := [.str "stop", .str "new", .str "if", .str "then", .str "else", .str "put", .str "get", .str "channel", .str "at", .str "define", .str "start"]
def signOk (c : Nat) : Bool := decide (c ∈ lettersS.cps.toList) || decide (c ∈ digitsS.cps.toList)
def nameS (z : Str) : Bool := decide (1 ≤ z.length) && decide (z.length ≤ 8) && decide (z.cps.toList.headD 0 ∈ lettersS.cps.toList) && !inV (.str z) reservedV && z.cps.toList.all signOk
def nameV : V → Bool
  | .str z => nameS z
  | _ => false
/-- an operand's kind of value: an int, or a text of a length within the line -/
def OpV : V → Prop
  | .int _ => True
  | .str z => z.length ≤ 40000
  | _ => False
def spPred (f : V → Bool) : Sp := fun vs H Q _ => ∃ v, vs = [v] ∧ OpV v ∧ RetV (.bl (f v)) H Q
def GC (mg : Str → Option Value) (x : Str) (v : V) : Prop := ∃ u, mg x = some u ∧ RelV v u
structure BasT (K : PySem.W.Frag) (mg : Str → Option Value) : Prop where
  letters : GC mg "LETTERS" (.str lettersS)
  digits : GC mg "DIGITS" (.str digitsS)
  nlen : GC mg "NAME_LENGTH" (.int 8)
  reserved : ∃ a, mg "RESERVED" = some (.ref a) ∧ ∀ H, SqT K H a reservedV
  toolong : GC mg "TOO_LONG" (.int (10 ^ 30))
  seats : GC mg "MOST_SEATS" (.int 4)
  isinst : mg "isinstance" = none
  str : mg "str" = none
  int : mg "int" = none
  bool : mg "bool" = none
  len : mg "len" = none
  all : mg "all" = none
theorem str_len (z : Str) : z.length = z.cps.toList.length := by
  unfold Str.length
  rw [Array.length_toList]
section
variable {P : Program} {w : World} {K : PySem.W.Frag} {mg : Str → Option Value} {base : Heap}
theorem scName : FnScope ["text", "sign"] ["text"] (defScope (topS 7)) := ⟨rfl, rfl, rfl, by decide +kernel, rfl, by decide +kernel, by decide +kernel⟩
theorem ok_is_name {f : Addr} {fd : FuncData} (F : Fun K "is_name" "is_name" (topS 7) f fd) (T : BasT K mg) : FnOk P w K mg base CX0 1 f fd ["text"] (spPred nameV) := by
  refine F.ok scName (fun vs H Q E h => ?_) (fun cdv A outer s H vs Q E hr h => ?_)
  · obtain ⟨v, rfl, _⟩ := h
    rfl
  · obtain ⟨v, rfl, hv, k⟩ := h
    obtain ⟨aR, gR, hR⟩ := T.reserved
    refine ⟨_, pss_cons (ps_if (PW.pt (pw_or (pt_not (pt_val (pe_callB call_isi (by rfl) T.isinst (by decide +kernel) (pa_cons (pv 0) (pa_cons (pe_bltn (v := .ty "str") (by rfl) T.str (by decide +kernel) rfl) pa_nil)))))
        (pw_or1 (pt_not (pt_chain op_le op_le pe_int (pe_callB call_len_str (by rfl) T.len PySem.boot_len (pa_cons (pv 0) pa_nil)) (C8.pe_gc (by rfl) T.nlen)))))) (pss_one (ps_ret pe_bl)) pss_nil)
      (pss_cons (ps_if (PW.pt (pw_or (pt_cmpR op_notIn_sign (pe_ix ix_str (pv 0) pe_int (fun _ _ => rfl)) (C8.pe_gc (by rfl) T.letters) (by rfl))
        (pw_or1 (pt_cmpR op_in_seq (pv 0) (pe_glob (v := .ref aR) (by rfl) gR rfl) (by rfl))))) (pss_one (ps_ret pe_bl)) pss_nil)
      (pss_one (ps_ret (pe_callB (cr_all rfl) (by rfl) T.all (by decide +kernel) (pa_cons
        (pe_lc (own := [("sign", 1)]) (g := gName 1) (tt := tYes) rfl scName.nd (pi_str (pv 0)) (blkOk_by (own := [("sign", 1)]) (N := ["text", "sign"]) (sc := defScope (topS 7)) (by decide +kernel))
          (fun _ _ _ _ _ => pg_name (i := 1) scName.nd rfl (Or.inl rfl)) (fun _ _ _ _ _ => pts_nil)
          (fun _ _ _ _ _ => pe_or (pe_cmpR op_in_sign (pv 1) (C8.pe_gc (by rfl) T.letters) (by rfl)) (pe_one (pe_cmpR op_in_sign (pv 1) (C8.pe_gc (by rfl) T.digits) (by rfl))))) pa_nil))))), ?_⟩
    cases v with
    | int i =>
      refine q_when (b := true) (et_is (et_or (et_not (et_B (ev_cb (ea_cons (ev_var rfl) (ea_cons ev_c ea_nil)) (rc_isInt (b := false) (by decide +kernel))))) (fun q => nomatch q) (b := true)) rfl) (fun _ H1 e1 => ?_) (fun q => nomatch q)
      exact s_ret ev_c fun H2 e2 => k H2 (e1.trans e2)
    | str z =>
      have hz : z.length ≤ 40000 := hv
      have hz2 : z.length ≤ sizeLine := sz_of (by omega)
      refine q_when (b := !(decide ((1 : Int) ≤ (z.length : Nat)) && decide (((z.length : Nat) : Int) ≤ 8))) (et_is (et_or (et_not (et_B (ev_cb (ea_cons (ev_var rfl) (ea_cons ev_c ea_nil)) (rc_isStr (b := true) (by decide +kernel)))))
        (fun _ => et_not (et_test (ev_chain ev_c (ev_cb (ea_cons (ev_var rfl) ea_nil) (rc_lenS hz2)) rv_I0 (fun _ => ev_c) (fun _ => rv_I0))))) rfl) (fun hb H1 e1 => ?_) (fun hb H1 e1 => ?_)
      · refine s_ret ev_c fun H2 e2 => ?_
        have e : nameV (.str z) = false := by
          show nameS z = false
          unfold nameS
          have : (decide (1 ≤ z.length) && decide (z.length ≤ 8)) = false := by
            have hb' : ((z.length : Nat) : Int) < 1 ∨ 8 < ((z.length : Nat) : Int) := by simpa using hb
            simp only [Bool.and_eq_false_iff, decide_eq_false_iff_not]
            omega
          rw [this]
          rfl
        have q := k H2 (e1.trans e2)
        rw [e] at q
        exact q
      · have hb' : 1 ≤ z.length ∧ z.length ≤ 8 := by
          have : ((1 : Int) ≤ (z.length : Nat) ∧ ((z.length : Nat) : Int) ≤ 8) := by simpa using hb
          omega
        obtain ⟨c, r, hc⟩ : ∃ c r, z.cps.toList = c :: r := by
          cases e : z.cps.toList with
          | nil =>
            have := str_len z
            rw [e] at this
            simp at this
            omega
          | cons c r => exact ⟨c, r, rfl⟩
        have h0 : atI z.cps.toList 0 = some c := atI_nat (j := 0) (by rw [hc]; rfl)
        refine q_when (b := !decide (c ∈ lettersS.cps.toList) || inV (.str z) reservedV) (et_or (et_test (ev_op (ev_op (ev_var rfl) ev_c (rv_ixS (by omega) h0)) ev_c rv_niSign))
          (fun _ => et_test (ev_op (ev_var rfl) ev_c (rv_isT (hR _) rfl (by decide +kernel))))) (fun hb2 H2 e2 => ?_) (fun hb2 H2 e2 => ?_)
        · refine s_ret ev_c fun H3 e3 => ?_
          have e : nameV (.str z) = false := by
            show nameS z = false
            unfold nameS
            rw [hc]
            have : (decide (c ∈ lettersS.cps.toList) && !inV (.str z) reservedV) = false := by
              rw [Bool.or_eq_true] at hb2
              rcases hb2 with hb2 | hb2
              · have : decide (c ∈ lettersS.cps.toList) = false := by simpa using hb2
                rw [this]
                rfl
              · rw [hb2]
                simp
            show (decide (1 ≤ z.length) && decide (z.length ≤ 8) && decide (c ∈ lettersS.cps.toList) && !inV (.str z) reservedV && (c :: r).all signOk) = false
            rw [Bool.and_assoc (decide (1 ≤ z.length) && decide (z.length ≤ 8)), this]
            simp
          have q := k H3 ((e1.trans e2).trans e3)
          rw [e] at q
          exact q
        · refine s_ret (ev_all (bs := z.cps.toList.map signOk) (by
            rw [List.map_map]
            exact el_lcSm (V.bl ∘ signOk) (ev_var rfl) (by omega) (fun _ => rfl) (fun c H3 _ _ => ev_orV (ev_op (ev_var rfl) ev_c rv_inSign) (fun _ => ev_op (ev_var rfl) ev_c rv_inSign)))) fun H3 e3 => ?_
          have e : nameV (.str z) = (z.cps.toList.map signOk).all id := by
            show nameS z = _
            unfold nameS
            rw [hc]
            rw [Bool.or_eq_false_iff] at hb2
            have a1 : decide (c ∈ lettersS.cps.toList) = true := by simpa using hb2.1
            show (decide (1 ≤ z.length) && decide (z.length ≤ 8) && decide (c ∈ lettersS.cps.toList) && !inV (.str z) reservedV && (c :: r).all signOk) = _
            rw [decide_eq_true hb'.1, decide_eq_true hb'.2, a1, hb2.2, List.all_map]
            rfl
          have q := k H3 ((e1.trans e2).trans e3)
          rw [e] at q
          exact q
    | _ => exact hv.elim
/-! ### integers, operands, seats -/
def intV : V → Bool
  | .int _ => true
  | _ => false
def shortV : V → Bool
  | .int i => decide (-(10 ^ 30) < i) && decide (i < 10 ^ 30)
  | _ => false
def operandV (v : V) : Bool := shortV v || nameV v
def seatsV : V → Bool
  | .int i => decide (1 ≤ i) && decide (i ≤ 4)
  | _ => false
theorem sp_pred {f : V → Bool} {v : V} {H : Hp} (h : OpV v) : SpV (spPred f) [v] H (.bl (f v)) := fun H1 _ Q q E => ⟨v, rfl, h, fun H2 e => q H2 e⟩
theorem scInt : FnScope ["value"] ["value"] (defScope (topS 9)) := ⟨rfl, rfl, rfl, by decide +kernel, rfl, by decide +kernel, by decide +kernel⟩
theorem ok_is_int {f : Addr} {fd : FuncData} (F : Fun K "is_int" "is_int" (topS 9) f fd) (T : BasT K mg) : FnOk P w K mg base CX0 1 f fd ["value"] (spPred intV) := by
  refine F.ok scInt (fun vs H Q E h => ?_) (fun cdv A outer s H vs Q E hr h => ?_)
  · obtain ⟨v, rfl, _⟩ := h
    rfl
  · obtain ⟨v, rfl, hv, k⟩ := h
    refine ⟨_, pss_one (ps_ret (pe_and (pe_callB call_isi (by rfl) T.isinst (by decide +kernel) (pa_cons (pv 0) (pa_cons (pe_bltn (v := .ty "int") (by rfl) T.int (by decide +kernel) rfl) pa_nil)))
      (pe_one (pe_not (pe_callB call_isi (by rfl) T.isinst (by decide +kernel) (pa_cons (pv 0) (pa_cons (pe_bltn (v := .ty "bool") (by rfl) T.bool (by decide +kernel) rfl) pa_nil))))))), ?_⟩
    cases v with
    | int i => exact s_ret (ev_andV (a := true) (b := true) (ev_cb (ea_cons (ev_var rfl) (ea_cons ev_c ea_nil)) (rc_isInt (by decide +kernel)))
        (fun _ => ev_notV (a := false) (ev_cb (ea_cons (ev_var rfl) (ea_cons ev_c ea_nil)) (rc_isInt (by decide +kernel))))) k
    | str z => exact s_ret (ev_andV (a := false) (b := true) (ev_cb (ea_cons (ev_var rfl) (ea_cons ev_c ea_nil)) (rc_isStr (by decide +kernel))) (fun q => nomatch q)) k
    | _ => exact hv.elim
theorem scShort : FnScope ["value"] ["value"] (defScope (topS 10)) := ⟨rfl, rfl, rfl, by decide +kernel, rfl, by decide +kernel, by decide +kernel⟩
theorem ok_is_short {f : Addr} {fd : FuncData} (F : Fun K "is_short" "is_short" (topS 10) f fd) (T : BasT K mg) (GI : CalX P w K mg base CX0 1 "is_int" (spPred intV)) : FnOk P w K mg base CX0 2 f fd ["value"] (spPred shortV) := by
  refine F.ok scShort (fun vs H Q E h => ?_) (fun cdv A outer s H vs Q E hr h => ?_)
  · obtain ⟨v, rfl, _⟩ := h
    rfl
  · obtain ⟨v, rfl, hv, k⟩ := h
    refine ⟨_, pss_one (ps_ret (pe_and (pe_cx (E := fun _ => E0) GI hr (by decide) (by rfl) at0 (pa_cons (pv 0) pa_nil))
      (pe_one (pe_chain op_lt op_lt (pe_un un_neg (C8.pe_gc (by rfl) T.toolong)) (pv 0) (C8.pe_gc (by rfl) T.toolong))))), ?_⟩
    cases v with
    | int i => exact s_ret (ev_andV (a := true) (ev_cx (ea_cons (ev_var rfl) ea_nil) (sp_pred hv)) (fun _ => ev_chain (ev_un ev_c ru_neg) (ev_var rfl) rv_I0 (fun _ => ev_c) (fun _ => rv_I0))) k
    | str z => exact s_ret (ev_andV (a := false) (b := true) (ev_cx (ea_cons (ev_var rfl) ea_nil) (sp_pred hv)) (fun q => nomatch q)) k
    | _ => exact hv.elim
theorem scOperand : FnScope ["part"] ["part"] (defScope (topS 11)) := ⟨rfl, rfl, rfl, by decide +kernel, rfl, by decide +kernel, by decide +kernel⟩
theorem ok_is_operand {f : Addr} {fd : FuncData} (F : Fun K "is_operand" "is_operand" (topS 11) f fd) (GS : CalX P w K mg base CX0 2 "is_short" (spPred shortV)) (GN : CalX P w K mg base CX0 1 "is_name" (spPred nameV)) :
    FnOk P w K mg base CX0 3 f fd ["part"] (spPred operandV) := by
  refine F.ok scOperand (fun vs H Q E h => ?_) (fun cdv A outer s H vs Q E hr h => ?_)
  · obtain ⟨v, rfl, _⟩ := h
    rfl
  · obtain ⟨v, rfl, hv, k⟩ := h
    refine ⟨_, pss_one (ps_ret (pe_or (pe_cx (E := fun _ => E0) GS hr (by decide) (by rfl) at0 (pa_cons (pv 0) pa_nil)) (pe_one (pe_cx (E := fun _ => E0) GN hr (by decide) (by rfl) at0 (pa_cons (pv 0) pa_nil))))), ?_⟩
    exact s_ret (ev_orV (ev_cx (ea_cons (ev_var rfl) ea_nil) (sp_pred hv)) (fun _ => ev_cx (ea_cons (ev_var rfl) ea_nil) (sp_pred hv))) k
theorem scSeats : FnScope ["count"] ["count"] (defScope (topS 12)) := ⟨rfl, rfl, rfl, by decide +kernel, rfl, by decide +kernel, by decide +kernel⟩
theorem ok_is_seats {f : Addr} {fd : FuncData} (F : Fun K "is_seats" "is_seats" (topS 12) f fd) (T : BasT K mg) (GI : CalX P w K mg base CX0 1 "is_int" (spPred intV)) : FnOk P w K mg base CX0 2 f fd ["count"] (spPred seatsV) := by
  refine F.ok scSeats (fun vs H Q E h => ?_) (fun cdv A outer s H vs Q E hr h => ?_)
  · obtain ⟨v, rfl, _⟩ := h
    rfl
  · obtain ⟨v, rfl, hv, k⟩ := h
    refine ⟨_, pss_one (ps_ret (pe_and (pe_cx (E := fun _ => E0) GI hr (by decide) (by rfl) at0 (pa_cons (pv 0) pa_nil))
      (pe_one (pe_chain op_le op_le pe_int (pv 0) (C8.pe_gc (by rfl) T.seats))))), ?_⟩
    cases v with
    | int i => exact s_ret (ev_andV (a := true) (ev_cx (ea_cons (ev_var rfl) ea_nil) (sp_pred hv)) (fun _ => ev_chain ev_c (ev_var rfl) rv_I0 (fun _ => ev_c) (fun _ => rv_I0))) k
    | str z => exact s_ret (ev_andV (a := false) (b := true) (ev_cx (ea_cons (ev_var rfl) ea_nil) (sp_pred hv)) (fun q => nomatch q)) k
    | _ => exact hv.elim
end
end Fs

set_option Elab.async false
set_option linter.all false
set_option maxRecDepth 100000
set_option maxHeartbeats 2000000
namespace Fs
open PySem L2 Evl FsE FsC FsR
/-! ### what raises: an own error of one argument -/
/-- X(e) made, to be raised: its own dict d, new, holds the argument under f -/
def tMkE (C : Addr) (f : Str) (ta : TA) : L2.St → Hp → XK → Prop := fun σ H Q => ta σ H fun vs H1 => ∃ z : Str, vs = [.str z] ∧ z.length ≤ 1000 ∧ ∀ d, H1 d = none → Q (.ref C) (some d) (upd H1 d (.xd [(f, .str z)]))
/-- the class x at C makes such errors -/
def RaisesX (P : Program) (w : World) (K : PySem.W.Frag) (mg : Str → Option Value) (base : Heap) (x : Str) (C : Addr) (f : Str) (k : Nat) : Prop :=
  ∀ (X : Cx), X.prog = P → X.w = w → X.K = K → X.mg = mg → X.base = base → Room k X.A → ∀ (a : Expr) (ta : TA) (p pos : Pos), PA X [a] ta → Gl X x → starEach (a :: []) X.env = (false, eval a X.env) :: starEach [] X.env → (backTo pos (starEach [] X.env)).any (·.1) = false →
    PMk X (.Call (.Name x p) [a] [] pos) (tMkE C f ta)
/-- what the text has told of the terms' module -/
structure TerT (K : PySem.W.Frag) (mg : Str → Option Value) (C CB : Addr) : Prop where
  cl : Cls K C
  nK : NoAttr K C "kind"
  nP : NoAttr K C "parts"
  nD : NoAttr K C "depth"
  nS : NoAttr K C "size"
  mgC : mg "Process" = some (.ref C)
  kStr : PySem.W.kitOne K (.type "str") (.ref C) = some false
  kInt : PySem.W.kitOne K (.type "int") (.ref C) = some false
  kTup : PySem.W.kitOne K (.type "tuple") (.ref C) = some false
  ha : PySem.W.findIn K (.ref C) "__class__" = some (some (.builtin "object.__class__"))
  hn : PySem.W.specialIn K (.builtin "object.__class__") "__get__" = some (some (.builtin "getset_descriptor.__get__"))
  htk : PySem.W.takesIn K (.builtin "object.__class__") = some true
  hm : PySem.W.mroIn K C (.type "object") = some true
  sum : mg "sum" = none
  max : mg "max" = none
  tuple : mg "tuple" = none
  depth : GC mg "MOST_DEPTH" (.int 20)
  size : GC mg "MOST_SIZE" (.int 400)
theorem kOwn {K : PySem.W.Frag} {C : Addr} : PySem.W.kitOne K (.ref C) (.ref C) = some true := by
  unfold PySem.W.kitOne
  rw [if_pos (beq_self_eq_true _)]
/-- what is raised: the field f -/
def Bad (CB : Addr) (f : Str) (H : Hp) (E : XK) : Prop := ∀ (d : Addr) (H' : Hp), Ex H H' → H d = none → H' d = some (.xd [("field", .str f)]) → E (.ref CB) (some d) H'
theorem Bad.ex {CB : Addr} {f : Str} {H H' : Hp} {E : XK} (e : Ex H H') (h : Bad CB f H E) : Bad CB f H' E := fun d H2 e2 hd h2 => h d H2 (e.trans e2) (fresh_back e hd) h2
/-- demand(allowed, field) -/
def spDemand (CB : Addr) : Sp := fun vs H Q E => ∃ (b : Bool) (f : Str), vs = [.bl b, .str f] ∧ f.length ≤ 1000 ∧ (b = true → RetV .non H Q) ∧ (b = false → Bad CB f H E)
section
variable {P : Program} {w : World} {K : PySem.W.Frag} {mg : Str → Option Value} {base : Heap} {C CB : Addr}
theorem scDemand : FnScope ["allowed", "field"] ["allowed", "field"] (defScope (topS 22)) := ⟨rfl, rfl, rfl, by decide +kernel, rfl, by decide +kernel, by decide +kernel⟩
theorem ok_demand {f : Addr} {fd : FuncData} {k : Nat} (F : Fun K "demand" "demand" (topS 22) f fd) (R : RaisesX P w K mg base "BadTerm" CB "field" k) : FnOk P w K mg base (L2.CX P w) (k + 1) f fd ["allowed", "field"] (spDemand CB) := by
  refine F.okX scDemand (fun vs H Q E h => ?_) (fun cdv A outer s H vs Q E hr h => ?_)
  · obtain ⟨b, z, rfl, _⟩ := h
    rfl
  · obtain ⟨b, z, rfl, hz, k1, k2⟩ := h
    refine ⟨_, pss_one (ps_if (pt_not (pt_val (pv 0))) (pss_one (ps_raise (W := fun cls d _ H => E cls d H) rfl (takes_of rfl rfl rfl rfl) (R _ rfl rfl rfl rfl rfl hr _ _ _ _ (pa_cons (pv 1) pa_nil) (by rfl) (by rfl) (by rfl)))) pss_nil), ?_⟩
    refine s_if (et_not (et_B (ev_var rfl))) (fun hb H1 e1 => ?_) (fun hb H1 e1 => ?_)
    · have hb' : b = false := by simpa using hb
      refine ⟨_, rfl, z, rfl, hz, fun d hd => ?_⟩
      exact k2 hb' d _ (e1.trans (Ex.new hd)) (fresh_back e1 hd) upd_same
    · have hb' : b = true := by simpa using hb
      exact k1 hb' H1 e1
/-- demand(e, 'f') as a statement, what follows behind it -/
theorem q_demand {σ : L2.St} {H : Hp} {te : TE} {f : Str} {b : Bool} {E : L2.St → XK} {tz : TS} {D : Ends} (hf : f.length ≤ 1000) (h : Ev te σ H (.bl b)) (k1 : b = true → ∀ H1, Ex H H1 → tz D σ H1) (k2 : b = false → Bad CB f H (E σ)) :
    tSeq (tDrop (tCallS (spDemand CB) E (tCons te (tCons (tC (.str f)) tNil)))) tz D σ H :=
  h H (Ex.refl H) _ fun H1 e1 => ⟨b, f, rfl, hf, fun hb H2 e2 => k1 hb H2 (e1.trans e2), fun hb => (k2 hb).ex e1⟩
theorem s_demand {σ : L2.St} {H : Hp} {te : TE} {f : Str} {b : Bool} {E : L2.St → XK} {D : Ends} (hf : f.length ≤ 1000) (h : Ev te σ H (.bl b)) (k1 : b = true → ∀ H1, Ex H H1 → D.nx σ H1) (k2 : b = false → Bad CB f H (E σ)) :
    tDrop (tCallS (spDemand CB) E (tCons te (tCons (tC (.str f)) tNil))) D σ H :=
  h H (Ex.refl H) _ fun H1 e1 => ⟨b, f, rfl, hf, fun hb H2 e2 => k1 hb H2 (e1.trans e2), fun hb => (k2 hb).ex e1⟩
/-! ### what a process contains -/
theorem kNew : decide (V.str "new" = V.str "choice") = false := by decide +kernel
theorem kIf : decide (V.str "if" = V.str "choice") = false := by decide +kernel
theorem kCall : decide (V.str "call" = V.str "choice") = false := by decide +kernel
def spInner (C : Addr) : Sp := fun vs H Q _ => ∃ (p : Pr) (t : Addr) (ps rs : List V), vs = [.str p.kind, .ref t] ∧ H t = some (.tup ps) ∧ ps.length ≤ 100 ∧ InnOf C H ps rs p ∧ RetL rs H Q
theorem sp_inner {p : Pr} {t : Addr} {ps rs : List V} {H : Hp} (h1 : H t = some (.tup ps)) (h2 : ps.length ≤ 100) (h3 : InnOf C H ps rs p) : SpL (spInner C) [.str p.kind, .ref t] H rs := fun H1 e Q q E =>
  ⟨p, t, ps, rs, rfl, e _ _ h1, h2, h3.ex e, q⟩
theorem scInner : FnScope ["kind", "parts", "offer", "part"] ["kind", "parts"] (defScope (topS 23)) := ⟨rfl, rfl, rfl, by decide +kernel, rfl, by decide +kernel, by decide +kernel⟩
theorem tyx_pr (T : TerT K mg C CB) {H : Hp} {a : Addr} {p : Pr} (h : PrAt C H a p) : ∀ H1, Ex H H1 → TyX K H1 (.ref a) (.ref C) := fun H1 e => by
  obtain ⟨t, ps, ⟨dx, h1⟩, _⟩ := h.out
  exact .base (.ins (e _ _ h1) T.cl T.ha T.hn T.htk T.hm)
theorem tyx_opd (T : TerT K mg C CB) {H : Hp} (o : Opd) : ∃ t, (∀ H1, Ex H H1 → TyX K H1 o.v t) ∧ PySem.W.kitOne K t (.ref C) = some false := by
  cases o with
  | int i => exact ⟨_, fun _ _ => .base (.int i), T.kInt⟩
  | nm z => exact ⟨_, fun _ _ => .base (.str z), T.kStr⟩
theorem et_isPr {σ : L2.St} {H : Hp} {i : Nat} {x : V} {t : Value} {b : Bool} (hx : σ[i]? = some (some x)) (ht : ∀ H1, Ex H H1 → TyX K H1 x t) (hk : PySem.W.kitOne K t (.ref C) = some b) :
    EvT (L2.tB (tCB (rIsi K) (tCons (tVar i) (tCons (tC (.ref C)) tNil)))) σ H b := et_B (ev_cb (ea_cons (ev_var hx) (ea_cons ev_c ea_nil)) (rc_isiOwn ht hk))
theorem ok_inner {f : Addr} {fd : FuncData} (F : Fun K "inner_processes" "inner_processes" (topS 23) f fd) (B : BasT K mg) (T : TerT K mg C CB) : FnOk P w K mg base CX0 1 f fd ["kind", "parts"] (spInner C) := by
  refine F.ok scInner (fun vs H Q E h => ?_) (fun cdv A outer s H vs Q E hr h => ?_)
  · obtain ⟨p, t, ps, rs, rfl, _⟩ := h
    rfl
  · obtain ⟨p, t, ps, rs, rfl, ht, hl, hI, k⟩ := h
    refine ⟨_, pss_cons (ps_if (pt_cmpR op_eq (pv 0) pe_str (nomark _)) (pss_one (ps_ret (pe_lc (own := [("offer", 2)]) (g := gName 2) (tt := tYes) rfl scInner.nd (pi_tup (pv 1)) (blkOk_by (own := [("offer", 2)]) (N := ["kind", "parts", "offer", "part"]) (sc := defScope (topS 23)) (by decide +kernel))
          (fun _ _ _ _ _ => pg_name (i := 2) scInner.nd rfl (Or.inl rfl)) (fun _ _ _ _ _ => pts_nil) (fun _ _ _ _ _ => pe_ix (r := rIxT K) ix_tup (pv 2) (pe_un un_neg pe_int) (fun _ _ => rfl))))) pss_nil)
      (pss_one (ps_ret (pe_lc (own := [("part", 3)]) (g := gName 3) (tt := L2.tB (tCB (rIsi K) (tCons (tVar 3) (tCons (tC (.ref C)) tNil)))) rfl scInner.nd (pi_tup (pv 1)) (blkOk_by (own := [("part", 3)]) (N := ["kind", "parts", "offer", "part"]) (sc := defScope (topS 23)) (by decide +kernel))
          (fun _ _ _ _ _ => pg_name (i := 3) scInner.nd rfl (Or.inl rfl)) (fun _ _ _ _ _ => pts_one (pt_val (pe_callB (id := "isinstance") (r := rIsi K) call_isi (by rfl) B.isinst (by decide +kernel) (pa_cons (pv 3) (pa_cons (pe_glob (v := .ref C) (by rfl) T.mgC rfl) pa_nil))))) (fun _ _ _ _ _ => pv 3)))), ?_⟩
    cases p with
    | choice os =>
      refine q_if (b := true) (et_test (ev_op (ev_var rfl) ev_c (rv_eq rfl))) (fun _ H1 e1 => ?_) (fun q => nomatch q)
      obtain ⟨h1, h2, h3⟩ := hI.ex e1
      refine s_retL (el_lcTy (ev_var rfl) (st_of (e1 _ _ ht)) (by omega) (fun _ => rfl) h1 (fun i x y H2 e2 hx hy => ?_)) (fun q H2 hq e2 h2 => k q H2 (fresh_back e1 hq) (e1.trans e2) h2)
      obtain ⟨o, c, s, m, op, u, y', rfl, z2, z3⟩ := h3 i x hx
      have e : y' = y := by
        rw [hy] at z2
        exact (Option.some.inj z2).symm
      subst e
      exact ev_op (ev_var rfl) (ev_un ev_c ru_neg) (rv_ixT (st_of (e2 _ _ z3)) rfl)
    | new n kk r =>
      refine q_if (b := false) (et_is (et_test (ev_op (ev_var rfl) ev_c (rv_eq rfl))) kNew) (fun q => nomatch q) (fun _ H1 e1 => ?_)
      obtain ⟨b, rfl, rfl, hb⟩ := hI.ex e1
      refine s_retL (xs := [.ref b]) (el_lcT (fun i => decide (i = 2)) (fun i => .ref b) (ev_var rfl) (st_of (e1 _ _ ht)) (by show 3 ≤ 40000; decide) (fun _ => rfl) (fun i x H2 e2 hx => ?_) (fun i x H2 e2 hx hi => ?_)) (fun q H2 hq e2 h2 => k q H2 (fresh_back e1 hq) (e1.trans e2) h2)
      · match i, hx with
        | 0, hx => cases hx; exact et_isPr rfl (fun _ _ => .base (.str n)) T.kStr
        | 1, hx => cases hx; exact et_isPr rfl (fun _ _ => .base (.int kk)) T.kInt
        | 2, hx => cases hx; exact et_isPr rfl (tyx_pr T (hb.ex e2)) kOwn
      · match i, hx, hi with
        | 2, hx, _ => cases hx; exact ev_var rfl
    | cond l r y n =>
      refine q_if (b := false) (et_is (et_test (ev_op (ev_var rfl) ev_c (rv_eq rfl))) kIf) (fun q => nomatch q) (fun _ H1 e1 => ?_)
      obtain ⟨b, c, rfl, rfl, hb, hc⟩ := hI.ex e1
      refine s_retL (xs := [.ref b, .ref c]) (el_lcT (fun i => decide (2 ≤ i)) (fun i => if i = 2 then .ref b else .ref c) (ev_var rfl) (st_of (e1 _ _ ht)) (by show 4 ≤ 40000; decide) (fun _ => rfl) (fun i x H2 e2 hx => ?_) (fun i x H2 e2 hx hi => ?_)) (fun q H2 hq e2 h2 => k q H2 (fresh_back e1 hq) (e1.trans e2) h2)
      · match i, hx with
        | 0, hx => cases hx; obtain ⟨t, h1, h2⟩ := tyx_opd T l; exact et_isPr rfl h1 h2
        | 1, hx => cases hx; obtain ⟨t, h1, h2⟩ := tyx_opd T r; exact et_isPr rfl h1 h2
        | 2, hx => cases hx; exact et_isPr rfl (tyx_pr T (hb.ex e2)) kOwn
        | 3, hx => cases hx; exact et_isPr rfl (tyx_pr T (hc.ex e2)) kOwn
      · match i, hx, hi with
        | 2, hx, _ => cases hx; exact ev_var rfl
        | 3, hx, _ => cases hx; exact ev_var rfl
    | call n ops =>
      refine q_if (b := false) (et_is (et_test (ev_op (ev_var rfl) ev_c (rv_eq rfl))) kCall) (fun q => nomatch q) (fun _ H1 e1 => ?_)
      obtain ⟨u, rfl, rfl, hu⟩ := hI.ex e1
      refine s_retL (xs := []) (el_lcT (fun i => false) (fun i => .non) (ev_var rfl) (st_of (e1 _ _ ht)) (by show 2 ≤ 40000; decide) (fun _ => rfl) (fun i x H2 e2 hx => ?_) (fun i x H2 e2 hx hi => nomatch hi)) (fun q H2 hq e2 h2 => k q H2 (fresh_back e1 hq) (e1.trans e2) h2)
      match i, hx with
      | 0, hx => cases hx; exact et_isPr rfl (fun _ _ => .base (.str n)) T.kStr
      | 1, hx => cases hx; exact et_isPr rfl (fun H3 e3 => .base (.tup (e3 _ _ (e2 _ _ hu)))) T.kTup
end
end Fs

set_option Elab.async false
set_option linter.all false
set_option maxRecDepth 100000
set_option maxHeartbeats 2000000
namespace Fs
open PySem L2 Evl FsE FsC FsR
def spSize (C : Addr) (f : Pr → Int) : Sp := fun vs H Q _ => ∃ (p : Pr) (t : Addr) (ps : List V), vs = [.str p.kind, .ref t] ∧ H t = some (.tup ps) ∧ ps.length ≤ 100 ∧ PartsAt C H ps p ∧ RetV (.int (f p)) H Q
theorem sp_size {C : Addr} {f : Pr → Int} {p : Pr} {t : Addr} {ps : List V} {H : Hp} (h1 : H t = some (.tup ps)) (h2 : ps.length ≤ 100) (h3 : PartsAt C H ps p) : SpV (spSize C f) [.str p.kind, .ref t] H (.int (f p)) := fun H1 e Q q E =>
  ⟨p, t, ps, rfl, e _ _ h1, h2, h3.ex e, q⟩
theorem hu2_of {A : Around} {k : Nat} (hr : Room k A) : A.units + 1 + 1 < cLine := Nat.lt_of_le_of_lt (by omega : A.units + 1 + 1 ≤ A.units + 64) hr.units
theorem kCh : decide (V.str "choice" = V.str "choice") = true := by decide +kernel
section
variable {P : Program} {w : World} {K : PySem.W.Frag} {mg : Str → Option Value} {base : Heap} {C CB : Addr}
theorem InnOf.short {H : Hp} {ps rs : List V} {p : Pr} (h : InnOf C H ps rs p) (hl : ps.length ≤ 100) : rs.length ≤ 100 := by
  cases p with
  | choice os =>
    have := h.1
    omega
  | new n k r =>
    obtain ⟨b, _, rfl, _⟩ := h
    show 1 ≤ 100
    decide
  | cond l r y n =>
    obtain ⟨b, c, _, rfl, _⟩ := h
    show 2 ≤ 100
    decide
  | call n ops =>
    obtain ⟨u, _, rfl, _⟩ := h
    show 0 ≤ 100
    decide
/-- [process.f for process in (the list)] -/
theorem el_flds {σ : L2.St} {H : Hp} {tl : TE} {j : Nat} {vs : List Nat} {rs : List V} {ps : List Pr} {f : Str} {g : Pr → Int} (hf : ∀ {H : Hp} {a : Addr} {p : Pr}, PrAt C H a p → ∃ dx fs, H a = some (.ins C dx fs) ∧ fs.lookup f = some (.int (g p)))
    (cl : Cls K C) (n : NoAttr K C f) (h : EvL tl σ H rs) (hl : rs.length ≤ 100) (hi : InnAt C H rs ps) (hw : ∀ x, wipe ((wipe σ vs).set j (some x)) vs = wipe σ vs) (hj : ∀ x, ((wipe σ vs).set j (some x))[j]? = some (some x)) :
    EvL (tLc (iList K tl) (gName j) tYes (tFld K (tVar j) f) vs) σ H ((ps.map g).map V.int) := by
  refine el_lcNLy h (by omega) hw (by rw [List.length_map, List.length_map, hi.length]) (fun i x y H1 e hx hy => ?_)
  obtain ⟨a, p, rfl, hp, hps⟩ := InnAt.at_ (hi.ex e) hx
  obtain ⟨dx, fs, h1, h2⟩ := hf hp
  have ey : y = .int (g p) := by
    rw [List.getElem?_map, List.getElem?_map, hps] at hy
    exact (Option.some.inj hy).symm
  subst ey
  exact ev_fld (ev_var (hj _)) h1 cl n h2
theorem fld_depth {H : Hp} {a : Addr} {p : Pr} (h : PrAt C H a p) : ∃ dx fs, H a = some (.ins C dx fs) ∧ fs.lookup ("depth" : Str) = some (.int p.depth) := by
  obtain ⟨t, ps, ⟨dx, h1⟩, _⟩ := h.out
  exact ⟨dx, _, h1, pf_depth⟩
theorem fld_size {H : Hp} {a : Addr} {p : Pr} (h : PrAt C H a p) : ∃ dx fs, H a = some (.ins C dx fs) ∧ fs.lookup ("size" : Str) = some (.int p.size) := by
  obtain ⟨t, ps, ⟨dx, h1⟩, _⟩ := h.out
  exact ⟨dx, _, h1, pf_size⟩
theorem scDepth : FnScope ["kind", "parts", "process"] ["kind", "parts"] (defScope (topS 25)) := ⟨rfl, rfl, rfl, by decide +kernel, rfl, by decide +kernel, by decide +kernel⟩
theorem ok_depth {f : Addr} {fd : FuncData} (F : Fun K "depth_of" "depth_of" (topS 25) f fd) (T : TerT K mg C CB) (GI : CalX P w K mg base CX0 1 "inner_processes" (spInner C)) : FnOk P w K mg base CX0 2 f fd ["kind", "parts"] (spSize C Pr.depth) := by
  refine F.ok scDepth (fun vs H Q E h => ?_) (fun cdv A outer s H vs Q E hr h => ?_)
  · obtain ⟨p, t, ps, rfl, _⟩ := h
    rfl
  · obtain ⟨p, t, ps, rfl, ht, hl, hP, k⟩ := h
    obtain ⟨rs, hI⟩ := hP.inn
    refine ⟨_, pss_one (ps_ret (pe_op op_add pe_int (pe_callBK (ck_maxD rfl (hu2_of hr)) (by rfl) T.max (by decide +kernel) (pa_cons
      (pe_lc (own := [("process", 2)]) (g := gName 2) (tt := tYes) (te := tFld K (tVar 2) "depth") rfl scDepth.nd (pi_list (pe_cx (E := fun _ => E0) GI hr (by decide) (by rfl) at0 (pa_cons (pv 0) (pa_cons (pv 1) pa_nil)))) (blkOk_by (own := [("process", 2)]) (N := ["kind", "parts", "process"]) (sc := defScope (topS 25)) (by decide +kernel))
          (fun _ _ _ _ _ => pg_name (i := 2) scDepth.nd rfl (Or.inl rfl)) (fun _ _ _ _ _ => pts_nil) (fun _ _ _ _ _ => pe_fld (pv 2) rfl)) pa_nil) (pk_cons pe_int pk_nil)))), ?_⟩
    have g : Ev (tOp (rI0 fun i j => .int (i + j)) (tC (.int 1)) (tCKw (FsR.rMaxD K) (tCons (tLc (iList K (tCallS (spInner C) (fun _ => E0) (tCons (tVar 0) (tCons (tVar 1) tNil)))) (gName 2) tYes (tFld K (tVar 2) "depth") [2]) tNil) (tCons (tC (.int 0)) tNil)))
        (start ["kind", "parts", "process"] [.str p.kind, .ref t]) H (.int (1 + maxDef 0 (p.inner.map Pr.depth))) :=
      ev_op ev_c (ev_maxD (el_flds (fun h => fld_depth h) T.cl T.nD (el_cx (ea_cons (ev_var rfl) (ea_cons (ev_var rfl) ea_nil)) (sp_inner ht hl hI)) (hI.short hl) hI.at (fun _ => rfl) (fun _ => rfl))) rv_I0
    rw [Pr.depth_eq] at g
    exact s_ret g k
theorem scSize : FnScope ["kind", "parts", "own", "process"] ["kind", "parts"] (defScope (topS 24)) := ⟨rfl, rfl, rfl, by decide +kernel, rfl, by decide +kernel, by decide +kernel⟩
theorem own_eq {H : Hp} {ps : List V} {p : Pr} (h : PartsAt C H ps p) : p.own = if decide (V.str p.kind = V.str "choice") = true then (if ((ps.length : Nat) : Int) > 1 then ((ps.length : Nat) : Int) else 1) else 1 := by
  cases p with
  | choice os =>
    rw [if_pos (show decide (V.str (Pr.choice os).kind = V.str "choice") = true from kCh)]
    show max 1 (os.len : Int) = _
    rw [OfsAt.len h]
    by_cases q : ((os.len : Nat) : Int) > 1
    · rw [if_pos q]
      omega
    · rw [if_neg q]
      omega
  | new n k r =>
    rw [show decide (V.str (Pr.new n k r).kind = V.str "choice") = false from kNew]
    rfl
  | cond l r y n =>
    rw [show decide (V.str (Pr.cond l r y n).kind = V.str "choice") = false from kIf]
    rfl
  | call n ops =>
    rw [show decide (V.str (Pr.call n ops).kind = V.str "choice") = false from kCall]
    rfl
theorem ok_size {f : Addr} {fd : FuncData} (F : Fun K "size_of" "size_of" (topS 24) f fd) (B : BasT K mg) (T : TerT K mg C CB) (GI : CalX P w K mg base CX0 1 "inner_processes" (spInner C)) : FnOk P w K mg base CX0 2 f fd ["kind", "parts"] (spSize C Pr.size) := by
  refine F.ok scSize (fun vs H Q E h => ?_) (fun cdv A outer s H vs Q E hr h => ?_)
  · obtain ⟨p, t, ps, rfl, _⟩ := h
    rfl
  · obtain ⟨p, t, ps, rfl, ht, hl, hP, k⟩ := h
    obtain ⟨rs, hI⟩ := hP.inn
    refine ⟨_, pss_cons (ps_set (i := 2) scSize.nd rfl (Or.inl rfl) (pe_ifExp (pt_cmpR op_eq (pv 0) pe_str (nomark _)) (pe_callB (call_max2 rfl) (by rfl) T.max (by decide +kernel) (pa_cons pe_int (pa_cons (pe_callB call_len_seq (by rfl) B.len PySem.boot_len (pa_cons (pv 1) pa_nil)) pa_nil))) pe_int))
      (pss_one (ps_ret (pe_op op_add (pv 2) (pe_callB (cr_sum rfl) (by rfl) T.sum (by decide +kernel) (pa_cons
      (pe_lc (own := [("process", 3)]) (g := gName 3) (tt := tYes) (te := tFld K (tVar 3) "size") rfl scSize.nd (pi_list (pe_cx (E := fun _ => E0) GI hr (by decide) (by rfl) at0 (pa_cons (pv 0) (pa_cons (pv 1) pa_nil)))) (blkOk_by (own := [("process", 3)]) (N := ["kind", "parts", "own", "process"]) (sc := defScope (topS 24)) (by decide +kernel))
          (fun _ _ _ _ _ => pg_name (i := 3) scSize.nd rfl (Or.inl rfl)) (fun _ _ _ _ _ => pts_nil) (fun _ _ _ _ _ => pe_fld (pv 3) rfl)) pa_nil))))), ?_⟩
    refine q_asg (v := .int p.own) (ev_if (b := decide (V.str p.kind = V.str "choice")) (et_test (ev_op (ev_var rfl) ev_c (rv_eq rfl))) (fun hb => ?_) (fun hb => ?_)) (fun H1 e1 => ?_)
    · have q := ev_max2 (σ := start ["kind", "parts", "own", "process"] [.str p.kind, .ref t]) (H := H) (ta := tC (.int 1)) (i := 1) (j := ((ps.length : Nat) : Int)) ev_c (ev_lenT (K := K) (ta := tVar 1) (ev_var rfl) (st_of ht))
      rw [own_eq hP, if_pos hb]
      exact q
    · rw [own_eq hP, if_neg (by rw [hb]; decide)]
      exact ev_c
    · have g : Ev (tOp (rI0 fun i j => .int (i + j)) (tVar 2) (tCB (rSum K) (tCons (tLc (iList K (tCallS (spInner C) (fun _ => E0) (tCons (tVar 0) (tCons (tVar 1) tNil)))) (gName 3) tYes (tFld K (tVar 3) "size") [3]) tNil)))
          ((start ["kind", "parts", "own", "process"] [.str p.kind, .ref t]).set 2 (some (.int p.own))) H1 (.int (p.own + (p.inner.map Pr.size).sum)) :=
        ev_op (ev_var rfl) (ev_sum (el_flds (fun h => fld_size h) T.cl T.nS (el_cx (ea_cons (ev_var rfl) (ea_cons (ev_var rfl) ea_nil)) (sp_inner (e1 _ _ ht) hl (hI.ex e1))) (hI.short hl) (hI.at.ex e1) (fun _ => rfl) (fun _ => rfl))) rv_I0
      rw [Pr.size_eq] at g
      exact s_ret g (fun H2 e2 => k H2 (e1.trans e2))
end
end Fs

set_option Elab.async false
set_option linter.all false
set_option maxRecDepth 100000
set_option maxHeartbeats 2000000
namespace Fs
open PySem L2 Evl FsE FsC FsR
def badInit (p : Pr) : Option Str := if p.depth ≤ 20 then (if p.size ≤ 400 then none else some "size") else some "depth"
def spInit (C CB : Addr) : Sp := fun vs H Q E => ∃ (a dx : Addr) (p : Pr) (t : Addr) (ps : List V) (H0 : Hp), vs = [.ref a, .str p.kind, .ref t] ∧ H a = some (.ins C dx []) ∧ H0 a = none ∧ Ex H0 H ∧ H0 t = some (.tup ps) ∧ ps.length ≤ 100 ∧ PartsAt C H0 ps p ∧
  (badInit p = none → ∀ H', Ex H0 H' → H' a = some (.ins C dx (pFlds p.kind t p.depth p.size)) → Q .non H') ∧ (∀ f, badInit p = some f → Bad CB f H0 E)
section
variable {P : Program} {w : World} {K : PySem.W.Frag} {mg : Str → Option Value} {base : Heap} {C CB : Addr}
theorem q_fld {σ : L2.St} {H : Hp} {ta tv : TE} {a C dx : Addr} {fs : List (Str × V)} {f : Str} {v : V} {tz : TS} {D : Ends} (hv : Ev tv σ H v) (ho : Ev ta σ H (.ref a)) (hi : H a = some (.ins C dx fs)) (cl : Cls K C) (n : NoAttr K C f) (hl : fs.length < 1000)
    (k : ∀ H1, Ex H H1 → tz D σ (upd H1 a (.ins C dx (putF f v fs)))) : tSeq (sFld K ta tv f) tz D σ H :=
  hv H (Ex.refl H) _ fun H1 e1 => ho H1 e1 _ fun H2 e2 => ⟨a, C, dx, fs, rfl, (e1.trans e2) _ _ hi, cl, n, hl, k H2 (e1.trans e2)⟩
theorem scInit : FnScope ["self", "kind", "parts"] ["self", "kind", "parts"] (defScope (inClass (topS 26) 0)) := ⟨rfl, rfl, rfl, by decide +kernel, rfl, by decide +kernel, by decide +kernel⟩
theorem putF_len (f : Str) (v : V) : ∀ fs : List (Str × V), (putF f v fs).length ≤ fs.length + 1
  | [] => by
    show 1 ≤ 0 + 1
    decide
  | (g, x) :: fs => by
    have ih := putF_len f v fs
    show (if g = f then (g, v) :: fs else (g, x) :: putF f v fs).length ≤ _
    by_cases h : g = f
    · rw [if_pos h]
      simp
    · rw [if_neg h]
      simp only [List.length_cons]
      omega
theorem ok_init {f : Addr} {fd : FuncData} {k : Nat} (F : Fun K "__init__" "Process.__init__" (inClass (topS 26) 0) f fd) (T : TerT K mg C CB) (GD : CalX P w K mg base CX0 2 "depth_of" (spSize C Pr.depth)) (GS : CalX P w K mg base CX0 2 "size_of" (spSize C Pr.size))
    (GM : CalX P w K mg base (L2.CX P w) k "demand" (spDemand CB)) (hk : 2 ≤ k) : FnOk P w K mg base (L2.CX P w) (k + 1) f fd ["self", "kind", "parts"] (spInit C CB) := by
  refine F.okX scInit (fun vs H Q E h => ?_) (fun cdv A outer s H vs Q E hr h => ?_)
  · obtain ⟨a, dx, p, t, ps, H0, rfl, _⟩ := h
    rfl
  · obtain ⟨a, dx, p, t, ps, H0, rfl, ha, hna, e0, ht, hl, hP, k1, k2⟩ := h
    refine ⟨_, pss_cons (ps_fld (pv 0) (pv 1) rfl) (pss_cons (ps_fld (pv 0) (pv 2) rfl)
      (pss_cons (ps_fld (pv 0) (pe_cx (E := fun _ => E0) GD hr hk (by rfl) at0 (pa_cons (pv 1) (pa_cons (pv 2) pa_nil))) rfl)
      (pss_cons (ps_fld (pv 0) (pe_cx (E := fun _ => E0) GS hr hk (by rfl) at0 (pa_cons (pv 1) (pa_cons (pv 2) pa_nil))) rfl)
      (pss_cons (ps_expr (pe_cx (E := WE (fun cls d _ H => E cls d H)) GM hr (Nat.le_refl _) (by rfl) (fun σ => passAt (takes_of rfl rfl rfl rfl) σ) (pa_cons (pe_cmpR op_le (pe_fld (pv 0) rfl) (C8.pe_gc (by rfl) T.depth) (nomark _)) (pa_cons pe_str pa_nil))))
      (pss_one (ps_expr (pe_cx (E := WE (fun cls d _ H => E cls d H)) GM hr (Nat.le_refl _) (by rfl) (fun σ => passAt (takes_of rfl rfl rfl rfl) σ) (pa_cons (pe_cmpR op_le (pe_fld (pv 0) rfl) (C8.pe_gc (by rfl) T.size) (nomark _)) (pa_cons pe_str pa_nil))))))))), ?_⟩
    refine q_fld (ev_var rfl) (ev_var rfl) ha T.cl T.nK (by show 0 < 1000; decide) (fun H1 e1 => ?_)
    have x1 : Ex H0 (upd H1 a (.ins C dx (putF "kind" (.str p.kind) []))) := Ex.mut (e0.trans e1) hna
    refine q_fld (ev_var rfl) (ev_var rfl) upd_same T.cl T.nP (by have := putF_len "kind" (.str p.kind) []; simp only [List.length_nil] at this; omega) (fun H2 e2 => ?_)
    have x2 : Ex H0 (upd H2 a (.ins C dx (putF "parts" (.ref t) (putF "kind" (.str p.kind) [])))) := Ex.mut (x1.trans e2) hna
    refine q_fld (ev_cx (ea_cons (ev_var rfl) (ea_cons (ev_var rfl) ea_nil)) (sp_size (x2 _ _ ht) hl (hP.ex x2))) (ev_var rfl) upd_same T.cl T.nD (by have h1 := putF_len "kind" (.str p.kind) []; have h2 := putF_len "parts" (.ref t) (putF "kind" (.str p.kind) []); simp only [List.length_nil] at h1; omega) (fun H3 e3 => ?_)
    have x3 : Ex H0 (upd H3 a (.ins C dx (putF "depth" (.int p.depth) (putF "parts" (.ref t) (putF "kind" (.str p.kind) []))))) := Ex.mut (x2.trans e3) hna
    refine q_fld (ev_cx (ea_cons (ev_var rfl) (ea_cons (ev_var rfl) ea_nil)) (sp_size (x3 _ _ ht) hl (hP.ex x3))) (ev_var rfl) upd_same T.cl T.nS (by have h1 := putF_len "kind" (.str p.kind) []; have h2 := putF_len "parts" (.ref t) (putF "kind" (.str p.kind) []); have h3 := putF_len "depth" (.int p.depth) (putF "parts" (.ref t) (putF "kind" (.str p.kind) [])); simp only [List.length_nil] at h1; omega) (fun H4 e4 => ?_)
    have x4 : Ex H0 (upd H4 a (.ins C dx (pFlds p.kind t p.depth p.size))) := Ex.mut (x3.trans e4) hna
    have h4 : (upd H4 a (.ins C dx (pFlds p.kind t p.depth p.size))) a = some (.ins C dx (pFlds p.kind t p.depth p.size)) := upd_same
    refine q_demand (by decide +kernel) (ev_op (ev_fld (ev_var rfl) h4 T.cl T.nD pf_depth) ev_c rv_I0) (fun hb H5 e5 => ?_) (fun hb => ?_)
    · have hd : p.depth ≤ 20 := by simpa using hb
      refine s_demand (by decide +kernel) (ev_op (ev_fld (ev_var rfl) (e5 _ _ h4) T.cl T.nS pf_size) ev_c rv_I0) (fun hb2 H6 e6 => ?_) (fun hb2 => ?_)
      · have hs : p.size ≤ 400 := by simpa using hb2
        exact k1 (by unfold badInit; rw [if_pos hd, if_pos hs]) H6 ((x4.trans e5).trans e6) ((e5.trans e6) _ _ h4)
      · have hs : ¬ p.size ≤ 400 := by simpa using hb2
        exact (k2 "size" (by unfold badInit; rw [if_pos hd, if_neg hs])).ex (x4.trans e5)
    · have hd : ¬ p.depth ≤ 20 := by simpa using hb
      exact (k2 "depth" (by unfold badInit; rw [if_neg hd])).ex x4
/-- what a maker gives: the process, or the field that is refused -/
def Made (C CB : Addr) (o : Option Str) (p : Pr) (H : Hp) (Q : VK) (E : XK) : Prop :=
  (o = none → ∀ a H', H a = none → Ex H H' → PrAt C H' a p → Q (.ref a) H') ∧ (∀ f, o = some f → Bad CB f H E)
theorem Made.ex {o : Option Str} {p : Pr} {H H' : Hp} {Q : VK} {E : XK} (e : Ex H H') (h : Made C CB o p H Q E) : Made C CB o p H' Q E :=
  ⟨fun ho a H2 ha e2 hp => h.1 ho a H2 (fresh_back e ha) (e.trans e2) hp, fun f hf => (h.2 f hf).ex e⟩
/-- a tuple that holds the parts of p -/
def EvP (C : Addr) (tp : TE) (σ : L2.St) (H : Hp) (p : Pr) : Prop := ∀ H1, Ex H H1 → ∀ Q : VK, (∀ t H2 ps, H1 t = none → Ex H1 H2 → H2 t = some (.tup ps) → ps.length ≤ 100 → PartsAt C H2 ps p → Q (.ref t) H2) → tp σ H1 Q
theorem EvP.of {σ : L2.St} {H : Hp} {tp : TE} {p : Pr} {ps : List V} (h : EvU tp σ H ps) (hl : ps.length ≤ 100) (hP : PartsAt C H ps p) : EvP C tp σ H p := fun H1 e Q q => h H1 e Q fun t H2 ht e2 h2 => q t H2 ps ht e2 h2 hl (hP.ex (e.trans e2))
/-- Process(kind, parts) -/
theorem ret_make {σ : L2.St} {H : Hp} {tk tp : TE} {p : Pr} {D : Ends} {E : XK} (hkd : Ev tk σ H (.str p.kind)) (hp : EvP C tp σ H p) (m : Made C CB (badInit p) p H D.rt E) :
    tRet (tMake C (spInit C CB) [] E (tCons tk (tCons tp tNil))) D σ H :=
  hkd H (Ex.refl H) _ fun H1 e1 => hp H1 e1 _ fun t H2 ps ht e2 h2 hl hP => fun x dx hx hdx hne => by
    have x0 : Ex H2 (upd (upd H2 dx (.own x)) x (.ins C dx [])) := by
      intro b o hb
      rw [upd_ne (ne_of_none hb hx), upd_ne (ne_of_none hb hdx)]
      exact hb
    refine ⟨x, dx, p, t, ps, H2, rfl, upd_same, hx, x0, h2, hl, hP, fun hb H' e' h' => ⟨rfl, ?_⟩, fun f hf => ((m.2 f hf).ex (e1.trans e2))⟩
    exact m.1 hb x H' (fresh_back (e1.trans e2) hx) ((e1.trans e2).trans e') (PrAt.mk ⟨dx, h'⟩ (e' _ _ h2) (hP.ex e'))
end
end Fs

set_option Elab.async false
set_option linter.all false
set_option maxRecDepth 100000
set_option maxHeartbeats 2000000
namespace Fs
open PySem L2 Evl FsE FsC FsR
def Opd.ok : Opd → Prop
  | .int _ => True
  | .nm z => z.length ≤ 40000
theorem Opd.opv {o : Opd} (h : o.ok) : OpV o.v := by
  cases o with
  | int i => exact True.intro
  | nm z => exact h
/-! what is refused -/
def badNew (z : Str) (k : Int) (r : Pr) : Option Str := if nameS z = true then (if seatsV (.int k) = true then badInit (.new z k r) else some "seats") else some "name"
def badWhen (l r : Opd) (y n : Pr) : Option Str := if operandV l.v = true then (if operandV r.v = true then badInit (.cond l r y n) else some "right") else some "left"
def opsOk (ops : List Opd) : Bool := decide (((ops.length : Nat) : Int) ≤ 4) && (ops.map fun o => operandV o.v).all id
def badCall (z : Str) (ops : List Opd) : Option Str := if nameS z = true then (if opsOk ops = true then badInit (.call z ops) else some "operands") else some "name"
/-! the promises -/
def spStop (C CB : Addr) : Sp := fun vs H Q E => vs = [] ∧ Made C CB none (.choice .nil) H Q E
def spNew (C CB : Addr) : Sp := fun vs H Q E => ∃ (z : Str) (k : Int) (b : Addr) (r : Pr), vs = [.str z, .int k, .ref b] ∧ z.length ≤ 40000 ∧ PrAt C H b r ∧ Made C CB (badNew z k r) (.new z k r) H Q E
def spWhen (C CB : Addr) : Sp := fun vs H Q E => ∃ (l r : Opd) (b c : Addr) (y n : Pr), vs = [l.v, r.v, .ref b, .ref c] ∧ l.ok ∧ r.ok ∧ PrAt C H b y ∧ PrAt C H c n ∧ Made C CB (badWhen l r y n) (.cond l r y n) H Q E
/-- a list or a tuple of the operands -/
def OpsAt (K : PySem.W.Frag) (H : Hp) (u : Addr) (ops : List Opd) : Prop := H u = some (.lst (ops.map Opd.v)) ∨ H u = some (.tup (ops.map Opd.v))
def spCall (K : PySem.W.Frag) (C CB : Addr) : Sp := fun vs H Q E => ∃ (z : Str) (u : Addr) (ops : List Opd), vs = [.str z, .ref u] ∧ z.length ≤ 40000 ∧ OpsAt K H u ops ∧ ops.length ≤ 90 ∧ (∀ o ∈ ops, o.ok) ∧ Made C CB (badCall z ops) (.call z ops) H Q E
/-- what the makers ask -/
structure MakT (P : Program) (w : World) (K : PySem.W.Frag) (mg : Str → Option Value) (base : Heap) (C CB : Addr) (k : Nat) : Prop where
  make : MakX P w K mg base (L2.CX P w) k "Process" C (spInit C CB)
  dem : CalX P w K mg base (L2.CX P w) k "demand" (spDemand CB)
  name : CalX P w K mg base CX0 1 "is_name" (spPred nameV)
  seats : CalX P w K mg base CX0 2 "is_seats" (spPred seatsV)
  operand : CalX P w K mg base CX0 3 "is_operand" (spPred operandV)
  mops : GC mg "MOST_OPERANDS" (.int 4)
  tuple : mg "tuple" = none
  len : mg "len" = none
  all : mg "all" = none
  hk : 3 ≤ k
section
variable {P : Program} {w : World} {K : PySem.W.Frag} {mg : Str → Option Value} {base : Heap} {C CB : Addr} {k : Nat}
theorem scStop : FnScope [] [] (defScope (inClass (topS 26) 1)) := ⟨rfl, rfl, rfl, by decide +kernel, rfl, by decide +kernel, by decide +kernel⟩
theorem ok_stop {f : Addr} {fd : FuncData} (F : Fun K "stop" "Process.stop" (inClass (topS 26) 1) f fd) (M : MakT P w K mg base C CB k) : FnOk P w K mg base (L2.CX P w) (k + 1 + 1) f fd [] (spStop C CB) := by
  refine F.okX scStop (fun vs H Q E h => ?_) (fun cdv A outer s H vs Q E hr h => ?_)
  · obtain ⟨rfl, _⟩ := h
    rfl
  · obtain ⟨rfl, m⟩ := h
    refine ⟨_, pss_one (ps_ret (pe_mx M.make hr (Nat.le_refl _) (by rfl) (passes_call (W := fun cls d _ H => E cls d H) (takes_of rfl rfl rfl rfl) (fun _ _ _ _ h => h)) (pa_cons pe_str (pa_cons (pe_tup pa_nil) pa_nil)))), ?_⟩
    exact ret_make (p := .choice .nil) ev_c (EvP.of (ps := []) (eu_tup ea_nil (by decide)) (by decide) rfl) m
theorem scNew : FnScope ["name", "seats", "rest"] ["name", "seats", "rest"] (defScope (inClass (topS 26) 3)) := ⟨rfl, rfl, rfl, by decide +kernel, rfl, by decide +kernel, by decide +kernel⟩
theorem Made.bad {o : Option Str} {f : Str} {p : Pr} {H : Hp} {Q : VK} {E : XK} (m : Made C CB o p H Q E) (h : o = some f) : Bad CB f H E := m.2 f h
theorem ok_new {f : Addr} {fd : FuncData} (F : Fun K "new" "Process.new" (inClass (topS 26) 3) f fd) (M : MakT P w K mg base C CB k) : FnOk P w K mg base (L2.CX P w) (k + 1 + 1) f fd ["name", "seats", "rest"] (spNew C CB) := by
  refine F.okX scNew (fun vs H Q E h => ?_) (fun cdv A outer s H vs Q E hr h => ?_)
  · obtain ⟨z, kk, b, r, rfl, _⟩ := h
    rfl
  · obtain ⟨z, kk, b, r, rfl, hz, hb, m⟩ := h
    have h3 := M.hk
    refine ⟨_, pss_cons (ps_expr (pe_cx (E := WE (fun cls d _ H => E cls d H)) M.dem hr (Nat.le_succ _) (by rfl) (fun σ => passAt (takes_of rfl rfl rfl rfl) σ) (pa_cons (pe_cx (E := fun _ => E0) M.name hr (by omega) (by rfl) at0 (pa_cons (pv 0) pa_nil)) (pa_cons pe_str pa_nil))))
      (pss_cons (ps_expr (pe_cx (E := WE (fun cls d _ H => E cls d H)) M.dem hr (Nat.le_succ _) (by rfl) (fun σ => passAt (takes_of rfl rfl rfl rfl) σ) (pa_cons (pe_cx (E := fun _ => E0) M.seats hr (by omega) (by rfl) at0 (pa_cons (pv 1) pa_nil)) (pa_cons pe_str pa_nil))))
      (pss_one (ps_ret (pe_mx M.make hr (Nat.le_refl _) (by rfl) (passes_call (W := fun cls d _ H => E cls d H) (takes_of rfl rfl rfl rfl) (fun _ _ _ _ h => h)) (pa_cons pe_str (pa_cons (pe_tup (pa_cons (pv 0) (pa_cons (pv 1) (pa_cons (pv 2) pa_nil)))) pa_nil)))))), ?_⟩
    refine q_demand (by decide +kernel) (ev_cx (ea_cons (ev_var rfl) ea_nil) (sp_pred (f := nameV) (v := .str z) hz)) (fun h1 H1 e1 => ?_) (fun h1 => m.bad (by unfold badNew; rw [if_neg (by rw [show nameS z = false from h1]; decide)]))
    refine q_demand (by decide +kernel) (ev_cx (ea_cons (ev_var rfl) ea_nil) (sp_pred (f := seatsV) (v := .int kk) True.intro)) (fun h2 H2 e2 => ?_) (fun h2 => (m.ex e1).bad (by unfold badNew; rw [if_pos (show nameS z = true from h1), if_neg (by rw [h2]; decide)]))
    have e : badNew z kk r = badInit (.new z kk r) := by unfold badNew; rw [if_pos (show nameS z = true from h1), if_pos h2]
    rw [e] at m
    exact ret_make (p := .new z kk r) ev_c (EvP.of (eu_tup (ea_cons (ev_var rfl) (ea_cons (ev_var rfl) (ea_cons (ev_var rfl) ea_nil))) (by show 3 ≤ 100000; decide)) (by show 3 ≤ 100; decide) ⟨b, rfl, hb.ex (e1.trans e2)⟩) (m.ex (e1.trans e2))
theorem scWhen : FnScope ["left", "right", "yes", "no"] ["left", "right", "yes", "no"] (defScope (inClass (topS 26) 4)) := ⟨rfl, rfl, rfl, by decide +kernel, rfl, by decide +kernel, by decide +kernel⟩
theorem ok_when {f : Addr} {fd : FuncData} (F : Fun K "when" "Process.when" (inClass (topS 26) 4) f fd) (M : MakT P w K mg base C CB k) : FnOk P w K mg base (L2.CX P w) (k + 1 + 1) f fd ["left", "right", "yes", "no"] (spWhen C CB) := by
  refine F.okX scWhen (fun vs H Q E h => ?_) (fun cdv A outer s H vs Q E hr h => ?_)
  · obtain ⟨l, r, b, c, y, n, rfl, _⟩ := h
    rfl
  · obtain ⟨l, r, b, c, y, n, rfl, hl, hrr, hb, hc, m⟩ := h
    have h3 := M.hk
    refine ⟨_, pss_cons (ps_expr (pe_cx (E := WE (fun cls d _ H => E cls d H)) M.dem hr (Nat.le_succ _) (by rfl) (fun σ => passAt (takes_of rfl rfl rfl rfl) σ) (pa_cons (pe_cx (E := fun _ => E0) M.operand hr (by omega) (by rfl) at0 (pa_cons (pv 0) pa_nil)) (pa_cons pe_str pa_nil))))
      (pss_cons (ps_expr (pe_cx (E := WE (fun cls d _ H => E cls d H)) M.dem hr (Nat.le_succ _) (by rfl) (fun σ => passAt (takes_of rfl rfl rfl rfl) σ) (pa_cons (pe_cx (E := fun _ => E0) M.operand hr (by omega) (by rfl) at0 (pa_cons (pv 1) pa_nil)) (pa_cons pe_str pa_nil))))
      (pss_one (ps_ret (pe_mx M.make hr (Nat.le_refl _) (by rfl) (passes_call (W := fun cls d _ H => E cls d H) (takes_of rfl rfl rfl rfl) (fun _ _ _ _ h => h)) (pa_cons pe_str (pa_cons (pe_tup (pa_cons (pv 0) (pa_cons (pv 1) (pa_cons (pv 2) (pa_cons (pv 3) pa_nil))))) pa_nil)))))), ?_⟩
    refine q_demand (by decide +kernel) (ev_cx (ea_cons (ev_var rfl) ea_nil) (sp_pred (f := operandV) (Opd.opv hl))) (fun h1 H1 e1 => ?_) (fun h1 => m.bad (by unfold badWhen; rw [if_neg (by rw [h1]; decide)]))
    refine q_demand (by decide +kernel) (ev_cx (ea_cons (ev_var rfl) ea_nil) (sp_pred (f := operandV) (Opd.opv hrr))) (fun h2 H2 e2 => ?_) (fun h2 => (m.ex e1).bad (by unfold badWhen; rw [if_pos h1, if_neg (by rw [h2]; decide)]))
    have e : badWhen l r y n = badInit (.cond l r y n) := by unfold badWhen; rw [if_pos h1, if_pos h2]
    rw [e] at m
    exact ret_make (p := .cond l r y n) ev_c (EvP.of (eu_tup (ea_cons (ev_var rfl) (ea_cons (ev_var rfl) (ea_cons (ev_var rfl) (ea_cons (ev_var rfl) ea_nil)))) (by show 4 ≤ 100000; decide)) (by show 4 ≤ 100; decide) ⟨b, c, rfl, hb.ex (e1.trans e2), hc.ex (e1.trans e2)⟩) (m.ex (e1.trans e2))
theorem scCall : FnScope ["name", "operands", "allowed", "part"] ["name", "operands"] (defScope (inClass (topS 26) 5)) := ⟨rfl, rfl, rfl, by decide +kernel, rfl, by decide +kernel, by decide +kernel⟩
theorem evp_call {σ : L2.St} {H : Hp} {z : Str} {u : Addr} {ops : List Opd} (h0 : σ[0]? = some (some (.str z))) (h1 : σ[1]? = some (some (.ref u))) (hu : OpsAt K H u ops) :
    EvP C (tTup (tCons (tVar 0) (tCons (tCB (fun xs H Q => ∃ p ys, xs = [V.ref p] ∧ ((SqL K H p ys ∧ ∀ l, H l = none → Q (.ref l) (upd H l (.tup ys))) ∨ SqT K H p ys ∧ Q (.ref p) H)) (tCons (tVar 1) tNil)) tNil))) σ H (.call z ops) := fun H1 e Q q => by
  rcases hu with hu | hu
  · refine ⟨_, h0, _, h1, u, ops.map Opd.v, rfl, .inl ⟨sq_of (e _ _ hu), fun l hl => ⟨(by show 2 ≤ sizeLine; decide), fun p hp => ?_⟩⟩⟩
    have hpl : l ≠ p := fun z => by rw [← z, upd_same] at hp; cases hp
    refine q p _ [.str z, .ref l] (fresh_back (Ex.new hl) hp) ((Ex.new hl).trans (Ex.new hp)) upd_same (by show 2 ≤ 100; decide) ⟨l, rfl, ?_⟩
    rw [upd_ne hpl]
    exact upd_same
  · refine ⟨_, h0, _, h1, u, ops.map Opd.v, rfl, .inr ⟨st_of (e _ _ hu), (by show 2 ≤ sizeLine; decide), fun p hp => ?_⟩⟩
    exact q p _ [.str z, .ref u] hp (Ex.new hp) upd_same (by show 2 ≤ 100; decide) ⟨u, rfl, Ex.new hp _ _ (e _ _ hu)⟩
theorem OpsAt.ex {H H' : Hp} {u : Addr} {ops : List Opd} (e : Ex H H') (h : OpsAt K H u ops) : OpsAt K H' u ops := h.imp (e _ _) (e _ _)
theorem ops_at {H : Hp} {ops : List Opd} (ho : ∀ o ∈ ops, o.ok) {i : Nat} {x y : V} (hx : (ops.map Opd.v)[i]? = some x) (hy : ((ops.map fun o => operandV o.v).map V.bl)[i]? = some y) : OpV x ∧ y = .bl (operandV x) := by
  rw [List.map_map, List.getElem?_map] at hy
  rw [List.getElem?_map] at hx
  cases hq : ops[i]? with
  | none =>
    rw [hq] at hx
    cases hx
  | some o =>
    rw [hq] at hx hy
    have ex : o.v = x := Option.some.inj hx
    have ey : V.bl (operandV o.v) = y := Option.some.inj hy
    subst ex
    exact ⟨Opd.opv (ho o (List.mem_of_getElem? hq)), ey.symm⟩
theorem ok_call {f : Addr} {fd : FuncData} (F : Fun K "call" "Process.call" (inClass (topS 26) 5) f fd) (M : MakT P w K mg base C CB k) : FnOk P w K mg base (L2.CX P w) (k + 1 + 1) f fd ["name", "operands"] (spCall K C CB) := by
  refine F.okX scCall (fun vs H Q E h => ?_) (fun cdv A outer s H vs Q E hr h => ?_)
  · obtain ⟨z, u, ops, rfl, _⟩ := h
    rfl
  · obtain ⟨z, u, ops, rfl, hz, hu, hl, ho, m⟩ := h
    have h3 := M.hk
    have bad1 : nameV (.str z) = false → Bad CB "name" H E := fun h1 => m.bad (by unfold badCall; rw [if_neg (by rw [show nameS z = false from h1]; decide)])
    have bad2 : nameV (.str z) = true → ∀ H1, Ex H H1 → opsOk ops = false → Bad CB "operands" H1 E := fun h1 H1 e1 h2 => (m.ex e1).bad (by unfold badCall; rw [if_pos (show nameS z = true from h1), if_neg (by rw [h2]; decide)])
    have good : nameV (.str z) = true → opsOk ops = true → ∀ H2, Ex H H2 → Made C CB (badInit (.call z ops)) (.call z ops) H2 Q E := fun h1 h2 H2 e2 => by
      have e : badCall z ops = badInit (.call z ops) := by unfold badCall; rw [if_pos (show nameS z = true from h1), if_pos h2]
      rw [e] at m
      exact m.ex e2
    have hlen : (ops.map Opd.v).length ≤ 40000 := by rw [List.length_map]; omega
    have hlen2 : ((ops.map fun o => operandV o.v).map V.bl).length = (ops.map Opd.v).length := by simp
    have hbs : ((((ops.map Opd.v).length : Nat) : Int)) = ((ops.length : Nat) : Int) := by rw [List.length_map]
    rcases hu with hu | hu
    · refine ⟨_, pss_cons (ps_expr (pe_cx (E := WE (fun cls d _ H => E cls d H)) M.dem hr (Nat.le_succ _) (by rfl) (fun σ => passAt (takes_of rfl rfl rfl rfl) σ) (pa_cons (pe_cx (E := fun _ => E0) M.name hr (by omega) (by rfl) at0 (pa_cons (pv 0) pa_nil)) (pa_cons pe_str pa_nil))))
        (pss_cons (ps_set (i := 2) scCall.nd rfl (Or.inl rfl) (pe_and (pe_cmpR op_le (pe_callB call_len_seq (by rfl) M.len PySem.boot_len (pa_cons (pv 1) pa_nil)) (C8.pe_gc (by rfl) M.mops) (nomark _)) (pe_one (pe_callB (cr_all rfl) (by rfl) M.all (by decide +kernel) (pa_cons
          (pe_lc (own := [("part", 3)]) (g := gName 3) (tt := tYes) (te := tCallS (spPred operandV) (fun _ => E0) (tCons (tVar 3) tNil)) rfl scCall.nd (pi_list (pv 1)) (blkOk_by (own := [("part", 3)]) (N := ["name", "operands", "allowed", "part"]) (sc := defScope (inClass (topS 26) 5)) (by decide +kernel))
            (fun _ _ _ _ _ => pg_name (i := 3) scCall.nd rfl (Or.inl rfl)) (fun _ _ _ _ _ => pts_nil) (fun _ _ _ _ _ => pe_cx (E := fun _ => E0) M.operand hr (by omega) (by rfl) at0 (pa_cons (pv 3) pa_nil))) pa_nil)))))
        (pss_cons (ps_expr (pe_cx (E := WE (fun cls d _ H => E cls d H)) M.dem hr (Nat.le_succ _) (by rfl) (fun σ => passAt (takes_of rfl rfl rfl rfl) σ) (pa_cons (pv 2) (pa_cons pe_str pa_nil))))
        (pss_one (ps_ret (pe_mx M.make hr (Nat.le_refl _) (by rfl) (passes_call (W := fun cls d _ H => E cls d H) (takes_of rfl rfl rfl rfl) (fun _ _ _ _ h => h)) (pa_cons pe_str (pa_cons (pe_tup (pa_cons (pv 0) (pa_cons (pe_callTy call_tuple_of (by rfl) M.tuple (by decide +kernel) (pa_cons (pv 1) pa_nil)) pa_nil))) pa_nil))))))), ?_⟩
      refine q_demand (by decide +kernel) (ev_cx (ea_cons (ev_var rfl) ea_nil) (sp_pred (f := nameV) (v := .str z) hz)) (fun h1 H1 e1 => ?_) bad1
      have hu1 := e1 _ _ hu
      refine q_asg (v := .bl (opsOk ops)) (ev_andV (ev_is (ev_op (ev_is (ev_cb (ea_cons (ev_var rfl) ea_nil) (fun H2 e2 Q' q' => ⟨u, _, rfl, .inl (sq_of (e2 _ _ hu1)), q' H2 (Ex.refl H2)⟩)) (by rw [hbs])) ev_c rv_I0) rfl) (fun _ => ev_all (bs := ops.map fun o => operandV o.v)
        (el_lcLy (ev_var rfl) (sq_of hu1) hlen (fun _ => rfl) hlen2 (fun i x y H2 e2 hx hy => ?_)))) (fun H2 e2 => ?_)
      · obtain ⟨a1, a2⟩ := ops_at (H := H) ho hx hy
        rw [a2]
        exact ev_cx (ea_cons (ev_var rfl) ea_nil) (sp_pred a1)
      · refine q_demand (by decide +kernel) (ev_var rfl) (fun h2 H3 e3 => ?_) (bad2 h1 H2 (e1.trans e2))
        exact ret_make (p := .call z ops) ev_c (evp_call rfl rfl (OpsAt.ex ((e1.trans e2).trans e3) (.inl hu))) (good h1 h2 H3 ((e1.trans e2).trans e3))
    · refine ⟨_, pss_cons (ps_expr (pe_cx (E := WE (fun cls d _ H => E cls d H)) M.dem hr (Nat.le_succ _) (by rfl) (fun σ => passAt (takes_of rfl rfl rfl rfl) σ) (pa_cons (pe_cx (E := fun _ => E0) M.name hr (by omega) (by rfl) at0 (pa_cons (pv 0) pa_nil)) (pa_cons pe_str pa_nil))))
        (pss_cons (ps_set (i := 2) scCall.nd rfl (Or.inl rfl) (pe_and (pe_cmpR op_le (pe_callB call_len_seq (by rfl) M.len PySem.boot_len (pa_cons (pv 1) pa_nil)) (C8.pe_gc (by rfl) M.mops) (nomark _)) (pe_one (pe_callB (cr_all rfl) (by rfl) M.all (by decide +kernel) (pa_cons
          (pe_lc (own := [("part", 3)]) (g := gName 3) (tt := tYes) (te := tCallS (spPred operandV) (fun _ => E0) (tCons (tVar 3) tNil)) rfl scCall.nd (pi_tup (pv 1)) (blkOk_by (own := [("part", 3)]) (N := ["name", "operands", "allowed", "part"]) (sc := defScope (inClass (topS 26) 5)) (by decide +kernel))
            (fun _ _ _ _ _ => pg_name (i := 3) scCall.nd rfl (Or.inl rfl)) (fun _ _ _ _ _ => pts_nil) (fun _ _ _ _ _ => pe_cx (E := fun _ => E0) M.operand hr (by omega) (by rfl) at0 (pa_cons (pv 3) pa_nil))) pa_nil)))))
        (pss_cons (ps_expr (pe_cx (E := WE (fun cls d _ H => E cls d H)) M.dem hr (Nat.le_succ _) (by rfl) (fun σ => passAt (takes_of rfl rfl rfl rfl) σ) (pa_cons (pv 2) (pa_cons pe_str pa_nil))))
        (pss_one (ps_ret (pe_mx M.make hr (Nat.le_refl _) (by rfl) (passes_call (W := fun cls d _ H => E cls d H) (takes_of rfl rfl rfl rfl) (fun _ _ _ _ h => h)) (pa_cons pe_str (pa_cons (pe_tup (pa_cons (pv 0) (pa_cons (pe_callTy call_tuple_of (by rfl) M.tuple (by decide +kernel) (pa_cons (pv 1) pa_nil)) pa_nil))) pa_nil))))))), ?_⟩
      refine q_demand (by decide +kernel) (ev_cx (ea_cons (ev_var rfl) ea_nil) (sp_pred (f := nameV) (v := .str z) hz)) (fun h1 H1 e1 => ?_) bad1
      have hu1 := e1 _ _ hu
      refine q_asg (v := .bl (opsOk ops)) (ev_andV (ev_is (ev_op (ev_is (ev_cb (ea_cons (ev_var rfl) ea_nil) (fun H2 e2 Q' q' => ⟨u, _, rfl, .inr (st_of (e2 _ _ hu1)), q' H2 (Ex.refl H2)⟩)) (by rw [hbs])) ev_c rv_I0) rfl) (fun _ => ev_all (bs := ops.map fun o => operandV o.v)
        (el_lcTy (ev_var rfl) (st_of hu1) hlen (fun _ => rfl) hlen2 (fun i x y H2 e2 hx hy => ?_)))) (fun H2 e2 => ?_)
      · obtain ⟨a1, a2⟩ := ops_at (H := H) ho hx hy
        rw [a2]
        exact ev_cx (ea_cons (ev_var rfl) ea_nil) (sp_pred a1)
      · refine q_demand (by decide +kernel) (ev_var rfl) (fun h2 H3 e3 => ?_) (bad2 h1 H2 (e1.trans e2))
        exact ret_make (p := .call z ops) ev_c (evp_call rfl rfl (OpsAt.ex ((e1.trans e2).trans e3) (.inr hu))) (good h1 h2 H3 ((e1.trans e2).trans e3))
end
end Fs

set_option Elab.async false
set_option linter.all false
set_option maxRecDepth 100000
set_option maxHeartbeats 2000000
namespace Fs
open PySem L2 Evl FsE FsC
structure LawT (K : PySem.W.Frag) (mg : Str → Option Value) : Prop where
  len : mg "len" = none
  int : mg "int" = none
  abs : mg "abs" = none
  range : mg "range" = none
section
variable {P : Program} {w : World} {K : PySem.W.Frag} {mg : Str → Option Value} {base : Heap}
theorem rc_int {K : PySem.W.Frag} {i : Int} {H : Hp} : RC (fun xs H Q => (∃ i, xs = [V.int i] ∧ Q (.int i) H) ∨ ∃ k, xs = [V.bl k] ∧ Q (.int (if k then 1 else 0)) H) [.int i] H (.int i) := fun H1 _ Q q => .inl ⟨i, rfl, q H1 (Ex.refl H1)⟩
/-- _law_cell_at(script, k): some int -/
def spCellAt (K : PySem.W.Frag) : Sp := fun vs H Q _ => ∃ (a : Addr) (ns : List Int) (k : Nat), vs = [.ref a, .int (k : Int)] ∧ SqL K H a (ns.map V.int) ∧ ∀ i : Int, RetV (.int i) H Q
theorem scCellAt : FnScope ["_law_script", "_law_k"] ["_law_script", "_law_k"] (defScope (topS 32)) := ⟨rfl, rfl, rfl, by decide +kernel, rfl, by decide +kernel, by decide +kernel⟩
theorem ok_cell_at {f : Addr} {fd : FuncData} (F : Fun K "_law_cell_at" "_law_cell_at" (topS 32) f fd) (T : LawT K mg) : FnOk P w K mg base CX0 1 f fd ["_law_script", "_law_k"] (spCellAt K) := by
  refine F.ok scCellAt (fun vs H Q E h => ?_) (fun cdv A outer s H vs Q E hr h => ?_)
  · obtain ⟨a, ns, k, rfl, _⟩ := h
    rfl
  · obtain ⟨a, ns, k, rfl, hS, q⟩ := h
    refine ⟨_, pss_cons (ps_if (pt_cmpR op_lt (pv 1) (pe_callB call_len_seq (by rfl) T.len PySem.boot_len (pa_cons (pv 0) pa_nil)) (nomark _)) (pss_one (ps_ret (pe_ix ix_list (pv 0) (pv 1) (fun _ _ => rfl)))) pss_nil) (pss_one (ps_ret pe_int)), ?_⟩
    refine q_when (b := decide ((k : Int) < ((ns.map V.int).length : Nat))) (et_test (ev_op (ev_var rfl) (ev_cb (ea_cons (ev_var rfl) ea_nil) (fun H2 e2 Q' q' => ⟨a, _, rfl, .inl (ex_l e2 hS), q' H2 (Ex.refl H2)⟩)) rv_I0)) (fun hb H1 e1 => ?_) (fun hb H1 e1 => ?_)
    · have hk : k < ns.length := by
        have : (k : Int) < ((ns.map V.int).length : Nat) := by simpa using hb
        rw [List.length_map] at this
        omega
      refine s_ret (v := .int ns[k]) (ev_op (ev_var rfl) (ev_var rfl) (rv_ixL (ex_l e1 hS) (atI_nat (by rw [List.getElem?_map, List.getElem?_eq_getElem hk]; rfl)))) (fun H2 e2 => q _ H2 (e1.trans e2))
    · exact s_ret ev_c (fun H2 e2 => q _ H2 (e1.trans e2))
/-- _law_mixed(cell, k): some int -/
def spMixed : Sp := fun vs H Q _ => ∃ (c : Int) (k : Nat), vs = [.int c, .int (k : Int)] ∧ k ≤ 1000 ∧ ∀ i : Int, RetV (.int i) H Q
theorem scMixed : FnScope ["_law_cell", "_law_k"] ["_law_cell", "_law_k"] (defScope (topS 33)) := ⟨rfl, rfl, rfl, by decide +kernel, rfl, by decide +kernel, by decide +kernel⟩
theorem ok_mixed {f : Addr} {fd : FuncData} (F : Fun K "_law_mixed" "_law_mixed" (topS 33) f fd) (T : LawT K mg) : FnOk P w K mg base CX0 1 f fd ["_law_cell", "_law_k"] spMixed := by
  refine F.ok scMixed (fun vs H Q E h => ?_) (fun cdv A outer s H vs Q E hr h => ?_)
  · obtain ⟨c, k, rfl, _⟩ := h
    rfl
  · obtain ⟨c, k, rfl, hk, q⟩ := h
    refine ⟨_, pss_one (ps_ret (pe_op op_mod (pe_op op_mul (pe_callTy call_int1 (by rfl) T.int (by decide +kernel) (pa_cons (pe_op op_add (pe_op op_mod (pe_op op_pow (pe_op op_add (pe_op op_add (pe_op op_mod (pe_callTy call_int1 (by rfl) T.int (by decide +kernel) (pa_cons (pv 0) pa_nil)) pe_int) (pe_op op_mul pe_int (pv 1))) pe_int) pe_int) pe_int) (pv 1)) pa_nil)) pe_int) pe_int)), ?_⟩
    have h1 := Int.emod_nonneg c (b := 2147483647) (by decide)
    have h2 := Int.emod_lt_of_pos c (b := 2147483647) (by decide)
    refine ⟨.int c, rfl, .inl ⟨c, rfl, c, 2147483647, rfl, rfl, (by decide : (0 : Int) < 2147483647), ?_⟩⟩
    refine ⟨.int (k : Int), rfl, 7919, (k : Int), rfl, rfl, .inl ⟨by decide, by decide⟩, ?_⟩
    refine ⟨c % 2147483647, 7919 * (k : Int), rfl, rfl, c % 2147483647 + 7919 * (k : Int), 104729, rfl, rfl, ?_⟩
    refine ⟨c % 2147483647 + 7919 * (k : Int) + 104729, 5, rfl, rfl, ⟨by decide, by decide, by omega⟩, ?_⟩
    refine ⟨_, 2147483647, rfl, rfl, (by decide : (0 : Int) < 2147483647), ?_⟩
    refine ⟨.int (k : Int), rfl, _, (k : Int), rfl, rfl, .inl ⟨_, rfl, _, 40692, rfl, rfl, .inr ⟨by decide, by decide⟩, ?_⟩⟩
    refine ⟨_, 2147483629, rfl, rfl, (by decide : (0 : Int) < 2147483629), ?_⟩
    exact q _ H (Ex.refl H)
/-- _law_row(cell, many): so many ints from 0 to 999 -/
def RowOk (row : List Int) : Prop := ∀ v ∈ row, 0 ≤ v ∧ v < 1000
def spRow : Sp := fun vs H Q _ => ∃ (c : Int) (n : Nat), vs = [.int c, .int (n : Int)] ∧ n ≤ 500 ∧ ∀ row : List Int, row.length = n → RowOk row → RetL (row.map V.int) H Q
theorem scRow : FnScope ["_law_cell", "_law_many", "_law_row_here", "_law_rest", "_law_k"] ["_law_cell", "_law_many"] (defScope (topS 34)) := ⟨rfl, rfl, rfl, by decide +kernel, rfl, by decide +kernel, by decide +kernel⟩
theorem rowOk_add {row : List Int} {v : Int} (h : RowOk row) (h0 : 0 ≤ v) (h1 : v < 1000) : RowOk (row ++ [v]) := fun x hx => by
  rcases List.mem_append.mp hx with hx | hx
  · exact h x hx
  · rw [List.mem_singleton.mp hx]
    exact ⟨h0, h1⟩
theorem ok_row {f : Addr} {fd : FuncData} (F : Fun K "_law_row" "_law_row" (topS 34) f fd) (T : LawT K mg) (GM : CalX P w K mg base CX0 1 "_law_mixed" spMixed) : FnOk P w K mg base CX0 2 f fd ["_law_cell", "_law_many"] spRow := by
  refine F.ok scRow (fun vs H Q E h => ?_) (fun cdv A outer s H vs Q E hr h => ?_)
  · obtain ⟨c, n, rfl, _⟩ := h
    rfl
  · obtain ⟨c, n, rfl, hn, q⟩ := h
    refine ⟨_, pss_cons (ps_set (i := 2) scRow.nd rfl (Or.inl rfl) (pe_lst pa_nil))
      (pss_cons (ps_set (i := 3) scRow.nd rfl (Or.inl rfl) pe_int)
      (pss_cut (ps_if (pt_cmpR op_ge (pe_callB call_abs (by rfl) T.abs (by decide +kernel) (pa_cons (pv 0) pa_nil)) (pe_op op_pow pe_int pe_int) (nomark _)) (pss_one (ps_set (i := 3) scRow.nd rfl (Or.inl rfl) (pe_callB call_abs (by rfl) T.abs (by decide +kernel) (pa_cons (pv 0) pa_nil)))) pss_nil)
      (pss_cons (ps_for PassesOwn.never rfl (pi_range1 rfl T.range (pa_cons (pv 1) pa_nil)) (pg_name (i := 4) scRow.nd rfl (Or.inl rfl))
        (pss_one (ps_if (pt_cmpR op_gt (pv 3) pe_int (nomark _))
          (pss_cons (ps_expr (pe_bm PySem.F.plainAttrs_list PySem.F.slot_list_append PySem.F.type_list_append mt_append (pv 2) (pa_cons (pe_op op_mod (pe_callTy call_int1 (by rfl) T.int (by decide +kernel) (pa_cons (pv 3) pa_nil)) pe_int) pa_nil)))
            (pss_one (ps_set (i := 3) scRow.nd rfl (Or.inl rfl) (pe_op op_fdiv (pv 3) pe_int))))
          (pss_one (ps_expr (pe_bm PySem.F.plainAttrs_list PySem.F.slot_list_append PySem.F.type_list_append mt_append (pv 2) (pa_cons (pe_op op_mod (pe_callTy call_int1 (by rfl) T.int (by decide +kernel) (pa_cons (pe_cx (E := fun _ => E0) GM hr (by decide) (by rfl) at0 (pa_cons (pv 0) (pa_cons (pv 4) pa_nil))) pa_nil)) pe_int) pa_nil)))))))
      (pss_one (ps_ret (pv 2)))))), ?_⟩
    refine q_asgL (xs := []) (el_lst ea_nil (by decide)) (fun l H1 hl e1 h1 => ?_)
    refine q_asg (v := .int 0) ev_c (fun H2 e2 => ?_)
    refine q_cut (M := fun σ' H' => ∃ r : Int, σ' = [some (.int c), some (.int (n : Int)), some (.ref l), some (.int r), none] ∧ Ex H H' ∧ H' l = some (.lst [])) ?_ (fun σ3 H3 ⟨r, hσ3, e3, h3⟩ => ?_)
    · refine s_when (b := decide ((10 : Int) ^ (18 : Int).toNat ≤ if c < 0 then -c else c)) (et_test (ev_op (ev_cb (ea_cons (ev_var rfl) ea_nil) (fun H4 _ Q' q' => ⟨c, rfl, q' H4 (Ex.refl H4)⟩)) (ev_op ev_c ev_c (rv_I ⟨by decide, by decide, by decide⟩)) rv_I0)) (fun hb H3 e3 => ?_) (fun hb H3 e3 => ?_)
      · exact s_asg (ev_cb (ea_cons (ev_var rfl) ea_nil) (fun H4 _ Q' q' => ⟨c, rfl, q' H4 (Ex.refl H4)⟩)) (fun H4 e4 => ⟨_, rfl, ((e1.trans e2).trans e3).trans e4, (e2.trans (e3.trans e4)) _ _ h1⟩)
      · exact ⟨0, rfl, (e1.trans e2).trans e3, (e2.trans e3) _ _ h1⟩
    · subst hσ3
      refine q_forR1 (n := (n : Int)) (ea_cons (ev_var rfl) ea_nil) (by omega) (fun i σ' H' => ∃ (row : List Int) (rest : Int) (v4 : Option V), σ' = [some (.int c), some (.int (n : Int)), some (.ref l), some (.int rest), v4] ∧ H' l = some (.lst (row.map V.int)) ∧ row.length = i ∧ RowOk row ∧ Ex H H')
        (fun H4 e4 => ⟨[], r, none, rfl, e4 _ _ h3, rfl, (fun v hv => nomatch hv), e3.trans e4⟩) (fun i σ' H' hi ⟨row, rest, v4, hσ, hl', hlen, hrow, he⟩ => ?_) (fun σ' H' ⟨row, rest, v4, hσ, hl', hlen, hrow, he⟩ => ?_)
      · subst hσ
        have hsz : (row.map V.int).length < 100000 := by rw [List.length_map]; omega
        have app : ∀ v : Int, row.map V.int ++ [V.int v] = (row ++ [v]).map V.int := fun v => by rw [List.map_append]; rfl
        refine s_if (b := decide (0 < rest)) (et_test (ev_op (ev_var rfl) ev_c rv_I0)) (fun hb H4 e4 => ?_) (fun hb H4 e4 => ?_)
        · refine q_app (xs := row.map V.int) (v := .int (rest % 1000)) (e4 _ _ hl') (ev_var rfl) (ev_op (x := .int rest) (ev_cb (ea_cons (ev_var rfl) ea_nil) (rc_int (K := K))) ev_c (rv_I (by decide))) hsz (fun H5 e5 => ?_)
          refine s_asg (ev_op (x := .int rest) (ev_var rfl) ev_c (rv_I ⟨by decide, by decide⟩)) (fun H6 e6 => ?_)
          refine ⟨row ++ [rest % 1000], _, _, rfl, e6 _ _ (by rw [← app]; exact upd_same), (by rw [List.length_append, hlen]; rfl), rowOk_add hrow (Int.emod_nonneg _ (by decide)) (Int.emod_lt_of_pos _ (by decide)), (Ex.mut ((he.trans e4).trans e5) hl).trans e6⟩
        · refine ⟨_, rfl, .inl ⟨rfl, _, sq_of (e4 _ _ hl')⟩, _, rfl, _, rfl, c, i, rfl, by omega, fun m H5 e5 => .inl ⟨m, rfl, m, 1000, rfl, rfl, (by decide : (0 : Int) < 1000), l, row.map V.int, .int (m % 1000), rfl, rfl, (e4.trans e5) _ _ hl', sz_lt hsz, ?_⟩⟩
          refine ⟨row ++ [m % 1000], _, _, rfl, (by rw [← app]; exact upd_same), (by rw [List.length_append, hlen]; rfl), rowOk_add hrow (Int.emod_nonneg _ (by decide)) (Int.emod_lt_of_pos _ (by decide)), Ex.mut ((he.trans e4).trans e5) hl⟩
      · subst hσ
        have hn' : row.length = n := by simpa using hlen
        refine s_ret (ev_var rfl) (fun H4 e4 => q row hn' hrow l H4 hl (he.trans e4) (e4 _ _ hl'))
end
end Fs

set_option Elab.async false
set_option linter.all false
set_option maxRecDepth 100000
set_option maxHeartbeats 2000000
namespace Fs
open PySem L2 Evl FsE FsC
/-! ### the law's own names and operands -/
def badL : List Str := ["", "A", "9a", "a_b", "new", "else", "a b", "abcdefghi", "aB", "-1"]
def NameSet (z : Str) : Prop := z ∈ badL ∨ ∃ c1 c2 : Nat, c1 ∈ lettersS.cps.toList ∧ c2 ∈ lettersS.cps.toList ∧ z = (⟨#[c1]⟩ : Str) ++ (⟨#[c2]⟩ : Str) ++ ("0" : Str)
theorem app_cps (a y : Str) : (a ++ y).cps.toList = a.cps.toList ++ y.cps.toList := by
  show (a.cps ++ y.cps).toList = _
  rw [Array.toList_append]
theorem three_cps (c1 c2 : Nat) : ((⟨#[c1]⟩ : Str) ++ (⟨#[c2]⟩ : Str) ++ ("0" : Str)).cps.toList = [c1, c2, 48] := by
  rw [app_cps, app_cps]
  rfl
def goodV : List V := [.str "new", .str "else", .str ""]
def lawGoodS (z : Str) : Bool := !inV (.str z) goodV && decide (z.cps.toList.headD 0 ∈ lettersS.cps.toList) && decide (z.length ≤ 8) && z.cps.toList.all signOk
theorem str_ext {a b : Str} (h : a.cps.toList = b.cps.toList) : a = b := by
  obtain ⟨x⟩ := a
  obtain ⟨y⟩ := b
  exact congrArg Str.mk (Array.toList_inj.mp h)
/-- a text that differs from all of them -/
theorem inV_none {z : Str} : ∀ {xs : List Str}, (∀ y ∈ xs, ¬ y.cps.toList = z.cps.toList) → inV (.str z) (xs.map V.str) = false
  | [], _ => rfl
  | y :: xs, h => by
    have e : (y == z) = false := by
      rw [beq_eq_false_iff_ne]
      intro q
      exact h y List.mem_cons_self (by rw [q])
    show (eqV (.str y) (.str z) || (xs.map V.str).any fun u => eqV u (.str z)) = false
    have ih := inV_none (z := z) (xs := xs) fun u hu => h u (List.mem_cons_of_mem _ hu)
    show ((y == z) || (xs.map V.str).any fun u => eqV u (.str z)) = false
    rw [e]
    exact ih
def reservedL : List Str := ["stop", "new", "if", "then", "else", "put", "get", "channel", "at", "define", "start"]
theorem bad_same : ∀ z ∈ badL, lawGoodS z = nameS z := by decide +kernel
theorem three_same {c1 c2 : Nat} (h1 : c1 ∈ lettersS.cps.toList) (h2 : c2 ∈ lettersS.cps.toList) : lawGoodS ((⟨#[c1]⟩ : Str) ++ (⟨#[c2]⟩ : Str) ++ ("0" : Str)) = nameS ((⟨#[c1]⟩ : Str) ++ (⟨#[c2]⟩ : Str) ++ ("0" : Str)) := by
  have e := three_cps c1 c2
  generalize hz : (⟨#[c1]⟩ : Str) ++ (⟨#[c2]⟩ : Str) ++ ("0" : Str) = z at e
  have hl : z.length = 3 := by rw [str_len, e]; rfl
  have a1 : inV (.str z) goodV = false := by
    refine inV_none (xs := ["new", "else", ""]) fun y hy q => ?_
    rw [e] at q
    have hd : ∀ y ∈ (["new", "else", ""] : List Str), y.cps.toList.getD 2 0 ≠ 48 := by decide +kernel
    exact hd y hy (by rw [q]; rfl)
  have a2 : inV (.str z) reservedV = false := by
    refine inV_none (xs := reservedL) fun y hy q => ?_
    rw [e] at q
    have hd : ∀ y ∈ reservedL, y.cps.toList.getD 2 0 ≠ 48 := by decide +kernel
    exact hd y hy (by rw [q]; rfl)
  have a3 : z.cps.toList.all signOk = true := by
    rw [e]
    have s1 : signOk c1 = true := by unfold signOk; rw [decide_eq_true h1]; rfl
    have s2 : signOk c2 = true := by unfold signOk; rw [decide_eq_true h2]; rfl
    have s3 : signOk 48 = true := by decide +kernel
    simp [s1, s2, s3]
  unfold lawGoodS nameS
  rw [a1, a2, a3, hl, e]
  have : decide ([c1, c2, 48].headD 0 ∈ lettersS.cps.toList) = true := decide_eq_true h1
  rw [this]
  rfl
theorem set_same {z : Str} (h : NameSet z) : lawGoodS z = nameS z := by
  rcases h with h | ⟨c1, c2, h1, h2, rfl⟩
  · exact bad_same z h
  · exact three_same h1 h2
theorem set_len {z : Str} (h : NameSet z) : z.length ≤ 10 := by
  rcases h with h | ⟨c1, c2, h1, h2, rfl⟩
  · have hd : ∀ z ∈ badL, z.length ≤ 10 := by decide +kernel
    exact hd z h
  · rw [str_len, three_cps]
    show 3 ≤ 10
    decide
/-- an operand of the law's -/
def OpdSet : Opd → Prop
  | .int _ => True
  | .nm z => NameSet z
theorem OpdSet.ok {o : Opd} (h : OpdSet o) : o.ok := by
  cases o with
  | int i => exact True.intro
  | nm z =>
    have := set_len (show NameSet z from h)
    show z.length ≤ 40000
    omega
def spSomeName : Sp := fun vs H Q _ => ∃ d : Int, vs = [.int d] ∧ 0 ≤ d ∧ d < 1000 ∧ ∀ z, NameSet z → RetV (.str z) H Q
def spSomeOperand : Sp := fun vs H Q _ => ∃ d : Int, vs = [.int d] ∧ 0 ≤ d ∧ d < 1000 ∧ ∀ o, OpdSet o → RetV o.v H Q
def spGood : Sp := fun vs H Q _ => ∃ o : Opd, vs = [o.v] ∧ OpdSet o ∧ RetV (.bl (operandV o.v)) H Q
theorem at_of {α : Type} {xs : List α} {i : Int} (h0 : 0 ≤ i) (h1 : i < xs.length) : ∃ x, x ∈ xs ∧ atI xs i = some x := by
  obtain ⟨j, rfl⟩ : ∃ j : Nat, i = (j : Int) := ⟨i.toNat, by omega⟩
  have hj : j < xs.length := by omega
  exact ⟨xs[j], List.getElem_mem hj, atI_nat (List.getElem?_eq_getElem hj)⟩
theorem rv_cat {x y : Str} {H : Hp} (h : x.length + y.length ≤ 100000) : RV (fun x y H Q => ∃ i j, x = V.str i ∧ y = V.str j ∧ i.length + j.length ≤ sizeLine ∧ Q (.str (i ++ j)) H) (.str x) (.str y) H (.str (x ++ y)) := fun H1 _ Q q => ⟨x, y, rfl, rfl, sz_of h, q H1 (Ex.refl H1)⟩
section
variable {P : Program} {w : World} {K : PySem.W.Frag} {mg : Str → Option Value} {base : Heap}
theorem scSomeName : FnScope ["_law_draw", "_law_letters"] ["_law_draw"] (defScope (topS 35)) := ⟨rfl, rfl, rfl, by decide +kernel, rfl, by decide +kernel, by decide +kernel⟩
theorem ok_some_name {f : Addr} {fd : FuncData} (F : Fun K "_law_some_name" "_law_some_name" (topS 35) f fd) (T : LawT K mg) : FnOk P w K mg base CX0 1 f fd ["_law_draw"] spSomeName := by
  refine F.ok scSomeName (fun vs H Q E h => ?_) (fun cdv A outer s H vs Q E hr h => ?_)
  · obtain ⟨d, rfl, _⟩ := h
    rfl
  · obtain ⟨d, rfl, h0, h1, q⟩ := h
    refine ⟨_, pss_cons (ps_if (pt_cmpR op_eq (pe_op op_mod (pe_callTy call_int1 (by rfl) T.int (by decide +kernel) (pa_cons (pv 0) pa_nil)) pe_int) pe_int (nomark _))
        (pss_one (ps_ret (pe_ix ix_list (pe_lst (pa_cons pe_str (pa_cons pe_str (pa_cons pe_str (pa_cons pe_str (pa_cons pe_str (pa_cons pe_str (pa_cons pe_str (pa_cons pe_str (pa_cons pe_str (pa_cons pe_str pa_nil)))))))))))
          (pe_op op_mod (pe_op op_fdiv (pv 0) pe_int) pe_int) (fun _ _ => rfl)))) pss_nil)
      (pss_cons (ps_set (i := 1) scSomeName.nd rfl (Or.inl rfl) pe_str)
      (pss_one (ps_ret (pe_op op_add_str (pe_op op_add_str (pe_ix ix_str (pv 1) (pe_op op_mod (pe_callTy call_int1 (by rfl) T.int (by decide +kernel) (pa_cons (pv 0) pa_nil)) pe_int) (fun _ _ => rfl))
        (pe_ix ix_str (pv 1) (pe_op op_mod (pe_op op_fdiv (pv 0) pe_int) pe_int) (fun _ _ => rfl))) pe_str)))), ?_⟩
    refine q_when (b := decide (V.int (d % 5) = V.int 0)) (et_test (ev_op (x := .int (d % 5)) (ev_op (x := .int d) (ev_cb (ea_cons (ev_var rfl) ea_nil) (rc_int (K := K))) ev_c (rv_I (by decide))) ev_c (rv_eq rfl))) (fun hb H1 e1 => ?_) (fun hb H1 e1 => ?_)
    · obtain ⟨z, hz, hat⟩ := at_of (xs := badL) (i := d / 5 % 10) (Int.emod_nonneg _ (by decide)) (Int.emod_lt_of_pos _ (by decide))
      have hat2 : atI (badL.map V.str) (d / 5 % 10) = some (.str z) := by
        have e : ∀ {α β : Type} (f : α → β) (xs : List α) (i : Int) (x : α), atI xs i = some x → atI (xs.map f) i = some (f x) := fun f xs i x h => by
          unfold atI at h ⊢
          rw [List.length_map]
          cases hq : ixN xs.length i with
          | none =>
            rw [hq] at h
            cases h
          | some j =>
            rw [hq] at h
            show (xs.map f)[j]? = some (f x)
            rw [List.getElem?_map, show xs[j]? = some x from h]
            rfl
        exact e V.str badL _ z hat
      refine s_ret (v := .str z) (ev_opL1 (xs := badL.map V.str) (y := .int (d / 5 % 10)) (el_lst (ea_cons ev_c (ea_cons ev_c (ea_cons ev_c (ea_cons ev_c (ea_cons ev_c (ea_cons ev_c (ea_cons ev_c (ea_cons ev_c (ea_cons ev_c (ea_cons ev_c ea_nil)))))))))) (by show 10 ≤ 100000; decide))
        (fun H2 e2 => ev_op (x := .int (d / 5)) (ev_op (x := .int d) (ev_var rfl) ev_c (rv_I ⟨by decide, by decide⟩)) ev_c (rv_I (by decide))) (fun p H2 hp e2 => rv_ixL (sq_of hp) hat2)) (fun H2 e2 => q z (.inl hz) H2 (e1.trans e2))
    · refine q_asg (v := .str lettersS) ev_c (fun H2 e2 => ?_)
      obtain ⟨c1, m1, a1⟩ := at_of (xs := lettersS.cps.toList) (i := d % 26) (Int.emod_nonneg _ (by decide)) (Int.emod_lt_of_pos _ (by decide))
      obtain ⟨c2, m2, a2⟩ := at_of (xs := lettersS.cps.toList) (i := d / 26 % 26) (Int.emod_nonneg _ (by decide)) (Int.emod_lt_of_pos _ (by decide))
      have hl : lettersS.length ≤ 100000 := by decide +kernel
      refine s_ret (v := .str ((⟨#[c1]⟩ : Str) ++ (⟨#[c2]⟩ : Str) ++ ("0" : Str))) (ev_op (ev_op (ev_op (y := .int (d % 26)) (ev_var rfl) (ev_op (x := .int d) (ev_cb (ea_cons (ev_var rfl) ea_nil) (rc_int (K := K))) ev_c (rv_I (by decide))) (rv_ixS hl a1))
        (ev_op (y := .int (d / 26 % 26)) (ev_var rfl) (ev_op (x := .int (d / 26)) (ev_op (x := .int d) (ev_var rfl) ev_c (rv_I ⟨by decide, by decide⟩)) ev_c (rv_I (by decide))) (rv_ixS hl a2)) (rv_cat (by show 1 + 1 ≤ 100000; decide))) ev_c (rv_cat ?_)) (fun H3 e3 => q _ (.inr ⟨c1, c2, m1, m2, rfl⟩) H3 ((e1.trans e2).trans e3))
      rw [str_len, app_cps]
      show 2 + 1 ≤ 100000
      decide
def bigV : List V := [.int ((10 : Int) ^ (30 : Int).toNat - 1), .int ((10 : Int) ^ (30 : Int).toNat), .int (1 - (10 : Int) ^ (30 : Int).toNat), .int (-((10 : Int) ^ (30 : Int).toNat)), .int ((10 : Int) ^ (31 : Int).toNat)]
theorem bigV_int {x : V} (h : x ∈ bigV) : ∃ i, x = .int i := by
  unfold bigV at h
  simp only [List.mem_cons, List.not_mem_nil, or_false] at h
  rcases h with h | h | h | h | h
  all_goals exact ⟨_, h⟩
theorem pow_ok {k : Int} (h : 0 ≤ k ∧ k ≤ 1000) : CPow 10 k := ⟨h.1, by omega, by decide⟩
theorem ev_pow {σ : L2.St} {H : Hp} {k : Int} (h : 0 ≤ k ∧ k ≤ 1000) : Ev (tOp (rI CPow fun i j => .int (i ^ j.toNat)) (tC (.int 10)) (tC (.int k))) σ H (.int ((10 : Int) ^ k.toNat)) := ev_op ev_c ev_c (rv_I (pow_ok h))
theorem scSomeOperand : FnScope ["_law_draw", "_law_way"] ["_law_draw"] (defScope (topS 36)) := ⟨rfl, rfl, rfl, by decide +kernel, rfl, by decide +kernel, by decide +kernel⟩
theorem ok_some_operand {f : Addr} {fd : FuncData} (F : Fun K "_law_some_operand" "_law_some_operand" (topS 36) f fd) (T : LawT K mg) (GN : CalX P w K mg base CX0 1 "_law_some_name" spSomeName) : FnOk P w K mg base CX0 2 f fd ["_law_draw"] spSomeOperand := by
  refine F.ok scSomeOperand (fun vs H Q E h => ?_) (fun cdv A outer s H vs Q E hr h => ?_)
  · obtain ⟨d, rfl, _⟩ := h
    rfl
  · obtain ⟨d, rfl, h0, h1, q⟩ := h
    refine ⟨_, pss_cons (ps_set (i := 1) scSomeOperand.nd rfl (Or.inl rfl) (pe_op op_fdiv (pv 0) pe_int))
      (pss_cons (ps_if (pt_cmpR op_eq (pe_op op_mod (pe_callTy call_int1 (by rfl) T.int (by decide +kernel) (pa_cons (pv 0) pa_nil)) pe_int) pe_int (nomark _)) (pss_one (ps_ret (pe_cx (E := fun _ => E0) GN hr (by decide) (by rfl) at0 (pa_cons (pv 1) pa_nil)))) pss_nil)
      (pss_cons (ps_if (pt_cmpR op_eq (pe_op op_mod (pe_callTy call_int1 (by rfl) T.int (by decide +kernel) (pa_cons (pv 0) pa_nil)) pe_int) pe_int (nomark _))
        (pss_one (ps_ret (pe_ix ix_list (pe_lst (pa_cons (pe_op op_sub (pe_op op_pow pe_int pe_int) pe_int) (pa_cons (pe_op op_pow pe_int pe_int) (pa_cons (pe_op op_sub pe_int (pe_op op_pow pe_int pe_int)) (pa_cons (pe_un un_neg (pe_op op_pow pe_int pe_int)) (pa_cons (pe_op op_pow pe_int pe_int) pa_nil))))))
          (pe_op op_mod (pe_callTy call_int1 (by rfl) T.int (by decide +kernel) (pa_cons (pv 1) pa_nil)) pe_int) (fun _ _ => rfl)))) pss_nil)
      (pss_one (ps_ret (pe_op op_sub (pe_op op_mod (pe_callTy call_int1 (by rfl) T.int (by decide +kernel) (pa_cons (pv 1) pa_nil)) pe_int) pe_int))))), ?_⟩
    refine q_asg (v := .int (d / 4)) (ev_op (x := .int d) (ev_var rfl) ev_c (rv_I ⟨by decide, by decide⟩)) (fun H1 e1 => ?_)
    refine q_when (b := decide (V.int (d % 4) = V.int 0)) (et_test (ev_op (x := .int (d % 4)) (ev_op (x := .int d) (ev_cb (ea_cons (ev_var rfl) ea_nil) (rc_int (K := K))) ev_c (rv_I (by decide))) ev_c (rv_eq rfl))) (fun hb H2 e2 => ?_) (fun hb H2 e2 => ?_)
    · refine ⟨_, rfl, d / 4, rfl, by omega, by omega, fun z hz H3 e3 => ?_⟩
      exact q (.nm z) hz H3 ((e1.trans e2).trans e3)
    refine q_when (b := decide (V.int (d % 4) = V.int 1)) (et_test (ev_op (x := .int (d % 4)) (ev_op (x := .int d) (ev_cb (ea_cons (ev_var rfl) ea_nil) (rc_int (K := K))) ev_c (rv_I (by decide))) ev_c (rv_eq rfl))) (fun hb H3 e3 => ?_) (fun hb H3 e3 => ?_)
    · obtain ⟨x, hx, hat⟩ := at_of (xs := bigV) (i := d / 4 % 5) (Int.emod_nonneg _ (by decide)) (Int.emod_lt_of_pos _ (by decide))
      obtain ⟨i, rfl⟩ := bigV_int hx
      refine s_ret (v := .int i) (ev_opL1 (xs := bigV) (y := .int (d / 4 % 5)) (el_lst (ea_cons (ev_op (ev_pow (by decide)) ev_c rv_I0) (ea_cons (ev_pow (by decide)) (ea_cons (ev_op ev_c (ev_pow (by decide)) rv_I0) (ea_cons (ev_un (ev_pow (by decide)) ru_neg) (ea_cons (ev_pow (by decide)) ea_nil))))) (by show 5 ≤ 100000; decide))
        (fun H4 e4 => ev_op (x := .int (d / 4)) (ev_cb (ea_cons (ev_var rfl) ea_nil) (rc_int (K := K))) ev_c (rv_I (by decide))) (fun p H4 hp e4 => rv_ixL (sq_of hp) hat)) (fun H4 e4 => q (.int i) True.intro H4 (((e1.trans e2).trans e3).trans e4))
    · exact s_ret (v := .int (d / 4 % 9 - 4)) (ev_op (ev_op (x := .int (d / 4)) (ev_cb (ea_cons (ev_var rfl) ea_nil) (rc_int (K := K))) ev_c (rv_I (by decide))) ev_c rv_I0) (fun H4 e4 => q (.int _) True.intro H4 (((e1.trans e2).trans e3).trans e4))
theorem sign_app (c : Nat) : decide (c ∈ (lettersS ++ digitsS).cps.toList) = signOk c := by
  unfold signOk
  rw [app_cps, ← Bool.decide_or]
  exact decide_eq_decide.mpr List.mem_append
theorem scGood : FnScope ["_law_thing", "_law_letters", "_law_sign"] ["_law_thing"] (defScope (topS 37)) := ⟨rfl, rfl, rfl, by decide +kernel, rfl, by decide +kernel, by decide +kernel⟩
theorem ok_good {f : Addr} {fd : FuncData} (F : Fun K "_law_good" "_law_good" (topS 37) f fd) (B : BasT K mg) : FnOk P w K mg base CX0 1 f fd ["_law_thing"] spGood := by
  refine F.ok scGood (fun vs H Q E h => ?_) (fun cdv A outer s H vs Q E hr h => ?_)
  · obtain ⟨o, rfl, _⟩ := h
    rfl
  · obtain ⟨o, rfl, ho, q⟩ := h
    refine ⟨_, pss_cons (ps_set (i := 1) scGood.nd rfl (Or.inr rfl) pe_str)
      (pss_cons (ps_if (pt_val (pe_callB call_isi (by rfl) B.isinst (by decide +kernel) (pa_cons (pv 0) (pa_cons (pe_bltn (v := .ty "str") (by rfl) B.str (by decide +kernel) rfl) pa_nil))))
        (pss_cons (ps_if (PW.pt (pw_or (pt_cmpR op_in_seq (pv 0) (pe_tup (pa_cons pe_str (pa_cons pe_str (pa_cons pe_str pa_nil)))) (by rfl)) (pw_or (pt_cmpR op_notIn_sign (pe_ix ix_str (pv 0) pe_int (fun _ _ => rfl)) (pv 1) (by rfl)) (pw_or1 (pt_cmpR op_gt (pe_callB call_len_str (by rfl) B.len PySem.boot_len (pa_cons (pv 0) pa_nil)) pe_int (nomark _)))))) (pss_one (ps_ret pe_bl)) pss_nil)
          (pss_one (ps_ret (pe_callB (cr_all rfl) (by rfl) B.all (by decide +kernel) (pa_cons
            (pe_lc (own := [("_law_sign", 2)]) (g := gName 2) (tt := tYes) rfl scGood.nd (pi_str (pv 0)) (blkOk_by (own := [("_law_sign", 2)]) (N := ["_law_thing", "_law_letters", "_law_sign"]) (sc := defScope (topS 37)) (by decide +kernel))
              (fun _ _ _ _ _ => pg_name (i := 2) scGood.nd rfl (Or.inl rfl)) (fun _ _ _ _ _ => pts_nil)
              (fun _ _ _ _ _ => pe_cmpR op_in_sign (pv 2) (pe_op op_add_str (pv 1) pe_str) (by rfl))) pa_nil)))))
        pss_nil)
      (pss_one (ps_ret (pe_and (pe_cmpR op_lt (pe_un un_neg (pe_op op_pow pe_int pe_int)) (pv 0) (nomark _)) (pe_one (pe_cmpR op_lt (pv 0) (pe_op op_pow pe_int pe_int) (nomark _))))))), ?_⟩
    refine q_asg (v := .str lettersS) ev_c (fun H1 e1 => ?_)
    cases o with
    | int i =>
      refine q_when (b := false) (et_B (ev_cb (ea_cons (ev_var rfl) (ea_cons ev_c ea_nil)) (rc_isInt (by decide +kernel)))) (fun hb => nomatch hb) (fun _ H2 e2 => ?_)
      refine s_ret (v := .bl (operandV (.int i))) (ev_is (ev_andV (ev_op (ev_un (ev_pow (by decide)) ru_neg) (ev_var rfl) rv_I0) (fun _ => ev_op (ev_var rfl) (ev_pow (by decide)) rv_I0)) ?_) (fun H3 e3 => q H3 ((e1.trans e2).trans e3))
      show V.bl (decide (-(10 : Int) ^ (30 : Int).toNat < i) && decide (i < (10 : Int) ^ (30 : Int).toNat)) = V.bl ((decide (-(10 ^ 30) < i) && decide (i < 10 ^ 30)) || false)
      rw [Bool.or_false]
      rfl
    | nm z =>
      have hs : NameSet z := ho
      have hz := set_len hs
      have e0 : operandV (.str z) = lawGoodS z := by
        show (false || nameS z) = _
        rw [set_same hs]
        rfl
      refine q_if (b := true) (et_B (ev_cb (ea_cons (ev_var rfl) (ea_cons ev_c ea_nil)) (rc_isStr (by decide +kernel)))) (fun _ H2 e2 => ?_) (fun hb => nomatch hb)
      by_cases hg : inV (.str z) goodV = true
      · refine q_when (b := true) (et_is (et_or (b := true) (et_test (ev_inU (xs := goodV) (ev_var rfl) (eu_tup (ea_cons ev_c (ea_cons ev_c (ea_cons ev_c ea_nil))) (by show 3 ≤ 100000; decide)) rfl (by decide +kernel))) (fun h => by rw [show inV (Opd.nm z).v goodV = true from hg] at h; cases h)) (by rw [show inV (Opd.nm z).v goodV = true from hg]; rfl)) (fun _ H3 e3 => ?_) (fun hb => nomatch hb)
        refine s_ret ev_c (fun H4 e4 => ?_)
        have g := q H4 (((e1.trans e2).trans e3).trans e4)
        rw [show operandV (Opd.nm z).v = operandV (.str z) from rfl, e0] at g
        have : lawGoodS z = false := by
          unfold lawGoodS
          rw [hg]
          rfl
        rw [this] at g
        exact g
      · have hg' : inV (.str z) goodV = false := by simpa using hg
        obtain ⟨c, r, hc⟩ : ∃ c r, z.cps.toList = c :: r := by
          cases e : z.cps.toList with
          | nil =>
            have ez : z = ("" : Str) := str_ext (by rw [e]; rfl)
            rw [ez] at hg
            exact absurd (by decide +kernel) hg
          | cons c r => exact ⟨c, r, rfl⟩
        have h0 : atI z.cps.toList 0 = some c := atI_nat (j := 0) (by rw [hc]; rfl)
        refine q_when (b := !decide (c ∈ lettersS.cps.toList) || decide ((8 : Int) < ((z.length : Nat) : Int))) (et_is (et_or (et_test (ev_inU (xs := goodV) (ev_var rfl) (eu_tup (ea_cons ev_c (ea_cons ev_c (ea_cons ev_c ea_nil))) (by show 3 ≤ 100000; decide)) rfl (by decide +kernel)))
          (fun _ => et_or (et_test (ev_op (ev_op (ev_var rfl) ev_c (rv_ixS (by omega) h0)) (ev_var rfl) rv_niSign)) (fun _ => et_test (ev_op (ev_cb (ea_cons (ev_var rfl) ea_nil) (rc_lenS (sz_of (by omega)))) ev_c rv_I0)))) (by rw [show inV (Opd.nm z).v goodV = false from hg']; rfl)) (fun hb H3 e3 => ?_) (fun hb H3 e3 => ?_)
        · refine s_ret ev_c (fun H4 e4 => ?_)
          have g := q H4 (((e1.trans e2).trans e3).trans e4)
          rw [show operandV (Opd.nm z).v = operandV (.str z) from rfl, e0] at g
          have : lawGoodS z = false := by
            unfold lawGoodS
            rw [hg', hc]
            rw [Bool.or_eq_true] at hb
            rcases hb with hb | hb
            · have : decide ((c :: r).headD 0 ∈ lettersS.cps.toList) = false := by
                show decide (c ∈ lettersS.cps.toList) = false
                simpa using hb
              rw [this]
              rfl
            · have : decide (z.length ≤ 8) = false := by
                have : (8 : Int) < ((z.length : Nat) : Int) := by simpa using hb
                simp only [decide_eq_false_iff_not]
                omega
              rw [this]
              simp
          rw [this] at g
          exact g
        · refine s_ret (v := .bl (lawGoodS z)) (ev_is (ev_all (bs := z.cps.toList.map signOk) (by
            rw [List.map_map]
            exact el_lcSm (V.bl ∘ signOk) (ev_var rfl) (by omega) (fun _ => rfl) (fun c H3 _ _ => ev_is (ev_op (ev_var rfl) (ev_op (ev_var rfl) ev_c (rv_cat (by decide +kernel))) rv_inSign) (congrArg V.bl (sign_app c))))) ?_) (fun H4 e4 => ?_)
          · rw [Bool.or_eq_false_iff] at hb
            have b1 : decide (c ∈ lettersS.cps.toList) = true := by simpa using hb.1
            have b2 : decide (z.length ≤ 8) = true := by
              have : ¬ (8 : Int) < ((z.length : Nat) : Int) := by simpa using hb.2
              simp only [decide_eq_true_eq]
              omega
            unfold lawGoodS
            rw [hg', b2, hc]
            show V.bl _ = V.bl (!false && decide (c ∈ lettersS.cps.toList) && true && (c :: r).all signOk)
            rw [b1, List.all_map]
            rfl
          · have g := q H4 (((e1.trans e2).trans e3).trans e4)
            rw [show operandV (Opd.nm z).v = operandV (.str z) from rfl, e0] at g
            exact g
end
end Fs

set_option Elab.async false
set_option linter.all false
set_option maxRecDepth 100000
set_option maxHeartbeats 2000000
namespace Fs
open PySem L2 Evl FsE FsC FsR
/-- so many new processes around stop -/
def tw : Nat → Pr
  | 0 => .choice .nil
  | n + 1 => .new "t" (1 + (n : Int) % 4) (tw n)
theorem tw_depth : ∀ n, (tw n).depth = (n : Int) + 1
  | 0 => by
    unfold tw Pr.depth Ofs.depth
    rfl
  | n + 1 => by
    unfold tw Pr.depth
    rw [tw_depth n]
    omega
theorem tw_size : ∀ n, (tw n).size = (n : Int) + 1
  | 0 => by
    unfold tw Pr.size Ofs.sum Ofs.len
    rfl
  | n + 1 => by
    unfold tw Pr.size
    rw [tw_size n]
    omega
theorem seats_ok (n : Nat) : seatsV (.int (1 + (n : Int) % 4)) = true := by
  show (decide (1 ≤ 1 + (n : Int) % 4) && decide (1 + (n : Int) % 4 ≤ 4)) = true
  have h1 := Int.emod_nonneg (n : Int) (b := 4) (by decide)
  have h2 := Int.emod_lt_of_pos (n : Int) (b := 4) (by decide)
  rw [decide_eq_true (by omega), decide_eq_true (by omega)]
  rfl
theorem name_t : nameS "t" = true := by decide +kernel
theorem bad_tw {n : Nat} (h : n < 19) : badNew "t" (1 + (n : Int) % 4) (tw n) = none := by
  unfold badNew
  rw [if_pos name_t, if_pos (seats_ok n)]
  unfold badInit Pr.depth Pr.size
  rw [tw_depth, tw_size, if_pos (by omega), if_pos (by omega)]
/-- the law's helpers know the class -/
def spTower (C : Addr) : Sp := fun vs H Q _ => ∃ n : Nat, vs = [.int ((n : Int) + 1)] ∧ n < 20 ∧ ∀ a H', H a = none → Ex H H' → PrAt C H' a (tw n) → Q (.ref a) H'
def spIsTower (C : Addr) : Sp := fun vs H Q _ => ∃ (n : Nat) (a : Addr), vs = [.ref a, .int ((n : Int) + 1)] ∧ n < 20 ∧ PrAt C H a (tw n) ∧ RetV (.bl true) H Q
section
variable {P : Program} {w : World} {K : PySem.W.Frag} {mg : Str → Option Value} {base : Heap} {C CB : Addr}
/-- the class of processes, by its static methods -/
structure StaT (P : Program) (w : World) (K : PySem.W.Frag) (mg : Str → Option Value) (base : Heap) (C CB : Addr) (k : Nat) : Prop where
  mgC : mg "Process" = some (.ref C)
  stop : StaX P w K mg base (L2.CX P w) k C "stop" (spStop C CB)
  new : StaX P w K mg base (L2.CX P w) k C "new" (spNew C CB)
theorem scTower : FnScope ["_law_depth", "_law_made", "_law_k"] ["_law_depth"] (defScope (topS 38)) := ⟨rfl, rfl, rfl, by decide +kernel, rfl, by decide +kernel, by decide +kernel⟩
theorem ok_tower {f : Addr} {fd : FuncData} {k : Nat} (F : Fun K "_law_tower" "_law_tower" (topS 38) f fd) (T : LawT K mg) (S : StaT P w K mg base C CB k) : FnOk P w K mg base CX0 (k + 1) f fd ["_law_depth"] (spTower C) := by
  refine F.ok scTower (fun vs H Q E h => ?_) (fun cdv A outer s H vs Q E hr h => ?_)
  · obtain ⟨n, rfl, _⟩ := h
    rfl
  · obtain ⟨n, rfl, hn, q⟩ := h
    refine ⟨_, pss_cons (ps_set (i := 1) scTower.nd rfl (Or.inl rfl) (pe_sx0 (E := fun _ => E0) S.stop hr (Nat.le_refl _) (pe_glob (v := .ref C) (by rfl) S.mgC rfl) (fun σ => passesAt_of passL σ)))
      (pss_cons (ps_for PassesOwn.never rfl (pi_range1 rfl T.range (pa_cons (pe_op op_sub (pv 0) pe_int) pa_nil)) (pg_name (i := 2) scTower.nd rfl (Or.inl rfl))
        (pss_one (ps_set (i := 1) scTower.nd rfl (Or.inl rfl) (pe_sx (E := fun _ => E0) S.new hr (Nat.le_refl _) (pe_glob (v := .ref C) (by rfl) S.mgC rfl) (fun σ => passesAt_of passL σ)
          (pa_cons pe_str (pa_cons (pe_op op_add pe_int (pe_op op_mod (pe_callTy call_int1 (by rfl) T.int (by decide +kernel) (pa_cons (pv 2) pa_nil)) pe_int)) (pa_cons (pv 1) pa_nil)))))))
      (pss_one (ps_ret (pv 1)))), ?_⟩
    refine ⟨rfl, rfl, fun _ a H1 ha e1 h1 => ?_, fun f hf => nomatch hf⟩
    have en : ((n : Int) + 1 - 1).toNat = n := by omega
    refine q_forR1 (n := (n : Int) + 1 - 1) (ea_cons (ev_op (ev_var rfl) ev_c rv_I0) ea_nil) (by omega) (fun i σ' H' => ∃ (b : Addr) (v2 : Option V), σ' = [some (.int ((n : Int) + 1)), some (.ref b), v2] ∧ PrAt C H' b (tw i) ∧ H b = none ∧ Ex H H')
      (fun H2 e2 => ⟨a, none, rfl, h1.ex e2, ha, e1.trans e2⟩) (fun i σ' H' hi ⟨b, v2, hσ, hb, hbn, he⟩ => ?_) (fun σ' H' ⟨b, v2, hσ, hb, hbn, he⟩ => ?_)
    · subst hσ
      refine ⟨rfl, _, rfl, .inl ⟨(i : Int), rfl, (i : Int), 4, rfl, rfl, (by decide : (0 : Int) < 4), 1, (i : Int) % 4, rfl, rfl, _, rfl, ?_⟩⟩
      refine ⟨"t", 1 + (i : Int) % 4, b, tw i, rfl, by decide +kernel, hb, fun _ c H2 hc e2 h2 => ?_, fun f hf => ?_⟩
      · exact ⟨c, _, rfl, h2, fresh_back he hc, he.trans e2⟩
      · rw [bad_tw (by omega)] at hf
        cases hf
    · subst hσ
      rw [en] at hb
      exact s_ret (ev_var rfl) (fun H2 e2 => q b H2 hbn (he.trans e2) (hb.ex e2))
theorem scIsTower : FnScope ["_law_process", "_law_depth", "_law_k"] ["_law_process", "_law_depth"] (defScope (topS 39)) := ⟨rfl, rfl, rfl, by decide +kernel, rfl, by decide +kernel, by decide +kernel⟩
theorem kNe : (!decide (V.str "new" = V.str "new")) = false := by decide +kernel
/-- a slice of a tuple, a new one -/
theorem eu_slT {σ : L2.St} {H : Hp} {te : TE} {tl th : TO} {a : Addr} {xs : List V} {lo hi : Option Int} (h : Ev te σ H (.ref a)) (h1 : EvO tl σ H lo) (h2 : EvO th σ H hi) (hs : SqT K H a xs) (hw : ¬ (HT.sIx xs.length 0 lo = 0 ∧ HT.sIx xs.length xs.length hi = xs.length)) : EvU (tSl (rSlT K) te tl th) σ H (cutV xs lo hi) := fun H1 e _ q =>
  h H1 e _ fun H2 e2 => h1 H2 (e.trans e2) _ fun H3 e3 => h2 H3 ((e.trans e2).trans e3) _ fun H4 e4 =>
    ⟨a, xs, rfl, ex_t (((e.trans e2).trans e3).trans e4) hs, hw, fun p hp => q p _ (fresh_back ((e2.trans e3).trans e4) hp) (((e2.trans e3).trans e4).trans (Ex.new hp)) upd_same⟩
theorem sh2 {x : Str} (hx : PyData.strOk x = true) (i : Int) : SeqAt.shaped (.tuple [.str x, .int i]) = true := by
  simp [SeqAt.shaped, PyData.canLay0, PyData.canLayAll0, PyData.depth, PyData.depthAll, hx]
/-- equal data -/
theorem rv_neD {H : Hp} {x y : V} {d : PyData} (hx : ∀ H1, Ex H H1 → Dp K H1 x d) (hy : ∀ H1, Ex H H1 → Dp K H1 y d) (hs : SeqAt.shaped d = true) : RV (rNeD K) x y H (.bl false) := fun H1 e Q q => ⟨d, d, hx H1 e, hy H1 e, hs, hs, by rw [SeqAt.eqv_refl d (SeqAt.canLay_of_shaped hs)]; exact q H1 (Ex.refl H1)⟩
theorem rv_eqD {H : Hp} {x y : V} {d : PyData} (hx : ∀ H1, Ex H H1 → Dp K H1 x d) (hy : ∀ H1, Ex H H1 → Dp K H1 y d) (hs : SeqAt.shaped d = true) : RV (rEqD K) x y H (.bl true) := fun H1 e Q q => ⟨d, d, hx H1 e, hy H1 e, hs, hs, by rw [SeqAt.eqv_refl d (SeqAt.canLay_of_shaped hs)]; exact q H1 (Ex.refl H1)⟩
theorem ok_is_tower {f : Addr} {fd : FuncData} (F : Fun K "_law_is_tower" "_law_is_tower" (topS 39) f fd) (L : LawT K mg) (T : TerT K mg C CB) : FnOk P w K mg base CX0 1 f fd ["_law_process", "_law_depth"] (spIsTower C) := by
  refine F.ok scIsTower (fun vs H Q E h => ?_) (fun cdv A outer s H vs Q E hr h => ?_)
  · obtain ⟨n, a, rfl, _⟩ := h
    rfl
  · obtain ⟨n, a, rfl, hn, ha, q⟩ := h
    refine ⟨_, pss_cons (ps_for PassesOwn.never rfl (pi_range1 rfl L.range (pa_cons (pe_op op_sub (pv 1) pe_int) pa_nil)) (pg_name (i := 2) scIsTower.nd rfl (Or.inl rfl))
        (pss_cons (ps_if (PW.pt (pw_or (pt_cmpR op_ne (pe_fld (pv 0) rfl) pe_str (nomark _)) (pw_or1 (pt_cmpR (op_neD hr.units) (pe_slice sl_tup (pe_fld (pv 0) rfl) po_none (po_some pe_int))
            (pe_tup (pa_cons pe_str (pa_cons (pe_op op_add pe_int (pe_op op_mod (pe_callTy call_int1 (by rfl) L.int (by decide +kernel) (pa_cons (pe_op op_sub (pe_op op_sub (pv 1) pe_int) (pv 2)) pa_nil)) pe_int)) pa_nil))) (nomark _))))) (pss_one (ps_ret pe_bl)) pss_nil)
        (pss_one (ps_set (i := 0) scIsTower.nd rfl (Or.inl rfl) (pe_ix ix_tup (pe_fld (pv 0) rfl) pe_int (fun _ _ => rfl))))))
      (pss_one (ps_ret (pe_and (pe_cmpR op_eq (pe_fld (pv 0) rfl) pe_str (nomark _)) (pe_one (pe_cmpR (op_eqD hr.units) (pe_fld (pv 0) rfl) (pe_tup pa_nil) (nomark _)))))), ?_⟩
    have en : ((n : Int) + 1 - 1).toNat = n := by omega
    refine q_forR1 (n := (n : Int) + 1 - 1) (ea_cons (ev_op (ev_var rfl) ev_c rv_I0) ea_nil) (by omega) (fun i σ' H' => ∃ (b : Addr) (v2 : Option V), i ≤ n ∧ σ' = [some (.ref b), some (.int ((n : Int) + 1)), v2] ∧ PrAt C H' b (tw (n - i)) ∧ Ex H H')
      (fun H2 e2 => ⟨a, none, Nat.zero_le _, rfl, ha.ex e2, e2⟩) (fun i σ' H' hi ⟨b, v2, hin, hσ, hb, he⟩ => ?_) (fun σ' H' ⟨b, v2, hin, hσ, hb, he⟩ => ?_)
    · subst hσ
      have e1 : n - i = (n - i - 1) + 1 := by omega
      rw [e1] at hb
      obtain ⟨t, ps, ⟨dx, h1⟩, h2, c, rfl, h3⟩ := hb.out
      refine q_when (b := false) (et_or (a := false) (b := false) (et_is (et_test (ev_op (ev_fld (ev_var rfl) h1 T.cl T.nK pf_kind) ev_c (rv_ne rfl))) kNe) (fun _ => ?_)) (fun hb => nomatch hb) (fun _ H2 e2 => ?_)
      · have ei : ((n : Int) + 1 - 2 - (i : Int)) = ((n - i - 1 : Nat) : Int) := by omega
        refine et_test (ev_opUU (xs := [.str "t", .int (1 + ((n - i - 1 : Nat) : Int) % 4)]) (ys := [.str "t", .int (1 + ((n - i - 1 : Nat) : Int) % 4)]) (eu_slT (hi := some 2) (lo := none) (ev_fld (ev_var rfl) h1 T.cl T.nP pf_parts) eo_none (eo_some ev_c) (st_of h2) (by show ¬ (HT.sIx 3 0 none = 0 ∧ HT.sIx 3 3 (some 2) = 3); decide))
          (eu_tup (ea_cons ev_c (ea_cons (ev_op (x := .int 1) ev_c (ev_op (x := .int ((n - i - 1 : Nat) : Int)) (ev_cb (ea_cons (ev_is (ev_op (ev_op (ev_var rfl) ev_c rv_I0) (ev_var rfl) rv_I0) (congrArg V.int ei)) ea_nil) (rc_int (K := K))) ev_c (rv_I (by decide))) rv_I0) ea_nil)) (by show 2 ≤ 100000; decide)) (fun p r H2 hp hr2 e2 => ?_))
        exact rv_neD (d := .tuple [.str "t", .int (1 + ((n - i - 1 : Nat) : Int) % 4)]) (fun H3 e3 => .tup (st_of (e3 _ _ hp)) (.cons (.str _) (.cons (.int _) .nil))) (fun H3 e3 => .tup (st_of (e3 _ _ hr2)) (.cons (.str _) (.cons (.int _) .nil))) (sh2 (by decide +kernel) _)
      · refine s_asg (v := .ref c) (ev_op (ev_fld (ev_var rfl) (e2 _ _ h1) T.cl T.nP pf_parts) ev_c (rv_ixT (st_of (e2 _ _ h2)) rfl)) (fun H3 e3 => ?_)
        exact ⟨c, _, by omega, rfl, (by rw [show n - (i + 1) = n - i - 1 by omega]; exact h3.ex (e2.trans e3)), (he.trans e2).trans e3⟩
    · subst hσ
      rw [en, Nat.sub_self] at hb
      obtain ⟨t, ps, ⟨dx, h1⟩, h2, h3⟩ := hb.out
      have h3' : ps = [] := by
        have z : OfsAt C H' ps .nil := h3
        unfold OfsAt at z
        exact z
      subst h3'
      refine s_ret (v := .bl true) (ev_is (ev_andV (a := true) (b := true) (ev_is (ev_op (ev_fld (ev_var rfl) h1 T.cl T.nK pf_kind) ev_c (rv_eq rfl)) (by decide +kernel)) (fun _ => ?_)) rfl) (fun H2 e2 => q H2 (he.trans e2))
      refine ev_opU (ev_fld (ev_var rfl) h1 T.cl T.nP pf_parts) (eu_tup ea_nil (by decide)) (fun p H2 hp e2 => ?_)
      exact rv_eqD (d := .tuple []) (fun H3 e3 => .tup (st_of (e3 _ _ (e2 _ _ h2))) .nil) (fun H3 e3 => .tup (st_of (e3 _ _ hp)) .nil) rfl
end
end Fs

set_option Elab.async false
set_option linter.all false
set_option maxRecDepth 100000
set_option maxHeartbeats 4000000
namespace Fs
open PySem L2 Evl FsE FsC FsR
/-- the error's class, as the law asks it -/
structure ErrT (K : PySem.W.Frag) (mg : Str → Option Value) (CB : Addr) : Prop where
  gB : mg "BadTerm" = some (.ref CB)
  xf : XfC K CB
  no : PySem.W.findIn K (.ref CB) "field" = some none
  te : PySem.W.exmOne K (.ref CB) (.ref CB) = some true
def spTrueRow (n : Nat) : Sp := fun vs H Q _ => ∃ (l : Addr) (row : List Int), vs = [.ref l] ∧ H l = some (.lst (row.map V.int)) ∧ row.length = n ∧ RowOk row ∧ RetV (.bl true) H Q
theorem row_get {row : List Int} {n i : Nat} (hl : row.length = n) (hr : RowOk row) (hi : i < n) : ∃ v, atI (row.map V.int) (i : Int) = some (.int v) ∧ 0 ≤ v ∧ v < 1000 := by
  have h : i < row.length := by omega
  refine ⟨row[i], atI_nat (by rw [List.getElem?_map, List.getElem?_eq_getElem h]; rfl), ?_⟩
  exact hr _ (List.getElem_mem h)
section
variable {P : Program} {w : World} {K : PySem.W.Frag} {mg : Str → Option Value} {base : Heap} {C CB : Addr}
/-- the law's own helpers, as defs to be called -/
structure HelpT (P : Program) (w : World) (K : PySem.W.Frag) (mg : Str → Option Value) (base : Heap) (C CB : Addr) (k : Nat) : Prop where
  name : CalX P w K mg base CX0 1 "_law_some_name" spSomeName
  operand : CalX P w K mg base CX0 2 "_law_some_operand" spSomeOperand
  good : CalX P w K mg base CX0 1 "_law_good" spGood
  tower : CalX P w K mg base CX0 (k + 1) "_law_tower" (spTower C)
  isTower : CalX P w K mg base CX0 1 "_law_is_tower" (spIsTower C)
  hk : 2 ≤ k
/-- int(row[i]) % m -/
theorem ev_rowM {σ : L2.St} {H : Hp} {l : Addr} {row : List Int} {v : Int} {i m : Int} (hσ : σ[0]? = some (some (.ref l))) (h : H l = some (.lst (row.map V.int))) (hat : atI (row.map V.int) i = some (.int v)) (hm : 0 < m) :
    Ev (tOp (rI (fun _ j => 0 < j) fun i j => .int (i % j)) (tCB (fun xs H Q => (∃ i, xs = [V.int i] ∧ Q (.int i) H) ∨ ∃ k, xs = [V.bl k] ∧ Q (.int (if k then 1 else 0)) H) (tCons (tOp (rIxL K) (tVar 0) (tC (.int i))) tNil)) (tC (.int m))) σ H (.int (v % m)) :=
  ev_op (x := .int v) (ev_cb (ea_cons (ev_op (ev_var hσ) ev_c (rv_ixL (sq_of h) hat)) ea_nil) (rc_int (K := K))) ev_c (rv_I hm)
def dueN (z : Str) (k : Int) (n : Nat) : Str := if nameS z = true then (if seatsV (.int k) = true then (if n ≤ 18 then "" else "depth") else "seats") else "name"
theorem ne1 : ¬ (("name" : Str) = "") := by decide +kernel
theorem ne2 : ¬ (("seats" : Str) = "") := by decide +kernel
theorem ne3 : ¬ (("depth" : Str) = "") := by decide +kernel
theorem due_new {z : Str} {k : Int} {n : Nat} (hn : n < 20) : (badNew z k (tw n) = none → dueN z k n = "") ∧ (∀ f, badNew z k (tw n) = some f → dueN z k n = f ∧ ¬ f = "") := by
  unfold badNew dueN badInit
  have e1 : (Pr.new z k (tw n)).depth = (n : Int) + 2 := by
    unfold Pr.depth
    rw [tw_depth]
    omega
  have e2 : (Pr.new z k (tw n)).size = (n : Int) + 2 := by
    unfold Pr.size
    rw [tw_size]
    omega
  rw [e1, e2]
  by_cases h1 : nameS z = true
  · rw [if_pos h1, if_pos h1]
    by_cases h2 : seatsV (.int k) = true
    · rw [if_pos h2, if_pos h2]
      by_cases h3 : n ≤ 18
      · rw [if_pos h3, if_pos (by omega), if_pos (by omega)]
        exact ⟨fun _ => rfl, fun f hf => nomatch hf⟩
      · rw [if_neg h3, if_neg (by omega)]
        exact ⟨fun h => (nomatch h), fun f hf => ⟨Option.some.inj hf, by rw [← Option.some.inj hf]; exact ne3⟩⟩
    · rw [if_neg h2, if_neg h2]
      exact ⟨fun h => (nomatch h), fun f hf => ⟨Option.some.inj hf, by rw [← Option.some.inj hf]; exact ne2⟩⟩
  · rw [if_neg h1, if_neg h1]
    exact ⟨fun h => (nomatch h), fun f hf => ⟨Option.some.inj hf, by rw [← Option.some.inj hf]; exact ne1⟩⟩
theorem kNeE : (!decide (V.str "" = V.str "")) = false := by decide +kernel
theorem rc_isTup {H : Hp} {a : Addr} {xs : List V} (h : H a = some (.tup xs)) : RC (rIsi K) [.ref a, .ty "tuple"] H (.bl true) := rc_isi (t := "tuple") (fun H1 e => .base (.tup (e _ _ h))) (by decide +kernel)
/-- x = _law_some_name(..) -/
theorem q_someName {σ : L2.St} {H : Hp} {ta : TA} {d : Int} {E : L2.St → XK} {i : Nat} {tz : TS} {D : Ends} (h : EvA ta σ H [.int d]) (h0 : 0 ≤ d) (h1 : d < 1000) (k : ∀ z, NameSet z → ∀ H1, Ex H H1 → tz D (σ.set i (some (.str z))) H1) : tSeq (tAsg (tCallS spSomeName E ta) (gName i)) tz D σ H :=
  h H (Ex.refl H) _ fun H1 e1 => ⟨d, rfl, h0, h1, fun z hz H2 e2 => k z hz H2 (e1.trans e2)⟩
theorem q_someOperand {σ : L2.St} {H : Hp} {ta : TA} {d : Int} {E : L2.St → XK} {i : Nat} {tz : TS} {D : Ends} (h : EvA ta σ H [.int d]) (h0 : 0 ≤ d) (h1 : d < 1000) (k : ∀ o, OpdSet o → ∀ H1, Ex H H1 → tz D (σ.set i (some o.v)) H1) : tSeq (tAsg (tCallS spSomeOperand E ta) (gName i)) tz D σ H :=
  h H (Ex.refl H) _ fun H1 e1 => ⟨d, rfl, h0, h1, fun z hz H2 e2 => k z hz H2 (e1.trans e2)⟩
/-- the suite: e.field == due -/
theorem suite_field {σ : L2.St} {H : Hp} {a d : Addr} {z due : Str} {D : Ends} {i j : Nat} (hσ : σ[i]? = some (some (.ref a))) (hj : σ[j]? = some (some (.str due))) (hd : H d = some (.xd [("field", .str z)])) (e : z = due) (k : D.rt (.bl true) H) :
    tRet (tOp rEq (tXf a (.ref CB) (some d) CB "field" (tVar i)) (tVar j)) D σ H := by
  refine ⟨_, hσ, rfl, rfl, d, _, .str z, rfl, hd, rfl, _, hj, rfl, ?_⟩
  subst e
  rw [decide_eq_true rfl]
  exact k
/-- int(row[i]) -/
theorem ev_row {σ : L2.St} {H : Hp} {l : Addr} {row : List Int} {v : Int} {i : Int} (hσ : σ[0]? = some (some (.ref l))) (h : H l = some (.lst (row.map V.int))) (hat : atI (row.map V.int) i = some (.int v)) : Ev (tOp (rIxL K) (tVar 0) (tC (.int i))) σ H (.int v) := ev_op (ev_var hσ) ev_c (rv_ixL (sq_of h) hat)
def due3 (a b c : Bool) (x y z : Str) : Str := if a = false then x else if b = true then y else if c = true then z else ""
theorem scNewL : FnScope ["_law_row_here", "_law_name", "_law_seats", "_law_depth", "_law_due", "_law_made", "e"] ["_law_row_here"] (defScope (topS 40)) := ⟨rfl, rfl, rfl, by decide +kernel, rfl, by decide +kernel, by decide +kernel⟩
theorem ok_lnew {f : Addr} {fd : FuncData} {k : Nat} (F : Fun K "_law_new" "_law_new" (topS 40) f fd) (L : LawT K mg) (B : BasT K mg) (T : TerT K mg C CB) (S : StaT P w K mg base C CB k) (G : HelpT P w K mg base C CB k) (R : ErrT K mg CB) : FnOk P w K mg base CX0 (k + 1 + 1) f fd ["_law_row_here"] (spTrueRow 8) := by
  refine F.ok scNewL (fun vs H Q E h => ?_) (fun cdv A outer s H vs Q E hr h => ?_)
  · obtain ⟨l, row, rfl, _⟩ := h
    rfl
  · obtain ⟨l, row, rfl, hl, hlen, hrow, q⟩ := h
    have hk := G.hk
    refine ⟨_, pss_cons (ps_set (i := 1) scNewL.nd rfl (Or.inl rfl) (pe_cx (E := fun _ => E0) G.name hr (by omega) (by rfl) at0 (pa_cons (pe_ix ix_list (pv 0) pe_int (fun _ _ => rfl)) pa_nil)))
      (pss_cons (ps_set (i := 2) scNewL.nd rfl (Or.inl rfl) (pe_op op_sub (pe_op op_mod (pe_callTy call_int1 (by rfl) L.int (by decide +kernel) (pa_cons (pe_ix ix_list (pv 0) pe_int (fun _ _ => rfl)) pa_nil)) pe_int) pe_int))
      (pss_cons (ps_set (i := 3) scNewL.nd rfl (Or.inl rfl) (pe_op op_add pe_int (pe_op op_mod (pe_callTy call_int1 (by rfl) L.int (by decide +kernel) (pa_cons (pe_ix ix_list (pv 0) pe_int (fun _ _ => rfl)) pa_nil)) pe_int)))
      (pss_cons (ps_set (i := 4) scNewL.nd rfl (Or.inl rfl) pe_str)
      (pss_cut (ps_if (pt_not (pt_val (pe_cx (E := fun _ => E0) G.good hr (by omega) (by rfl) at0 (pa_cons (pv 1) pa_nil)))) (pss_one (ps_set (i := 4) scNewL.nd rfl (Or.inl rfl) pe_str))
          (pss_one (ps_if (PW.pt (pw_or (pt_cmpR op_lt (pv 2) pe_int (nomark _)) (pw_or1 (pt_cmpR op_gt (pv 2) pe_int (nomark _))))) (pss_one (ps_set (i := 4) scNewL.nd rfl (Or.inl rfl) pe_str))
            (pss_one (ps_if (pt_cmpR op_gt (pv 3) pe_int (nomark _)) (pss_one (ps_set (i := 4) scNewL.nd rfl (Or.inl rfl) pe_str)) pss_nil)))))
      (pss_cons (ps_try_as (i := 6) (tb := fun W => tAsg (tStat C (spNew C CB) (WE W) (tC (.ref C)) (tCons (tVar 1) (tCons (tVar 2) (tCons (tCallS (spTower C) (fun _ => E0) (tCons (tVar 3) tNil)) tNil)))) (gName 5))
          (ts := fun a cls d => tRet (tOp rEq (tXf a cls d CB "field" (tVar 6)) (tVar 4))) (Wout := fun _ _ _ _ => False) rfl rfl scNewL.nd rfl rfl ⟨rfl, by decide, Or.inl R.gB⟩ takes0
          (fun W pn xe tk _ => pss_one (ps_set (i := 5) scNewL.nd rfl (Or.inl rfl) (by exact (pe_sx S.new hr (by omega) (pe_glob (v := .ref C) (by rfl) S.mgC rfl) (fun σ => passAt tk σ)
            (by exact (pa_cons (pv 1) (pa_cons (pv 2) (pa_cons (pe_cx (E := fun _ => E0) G.tower hr (Nat.le_refl _) (by rfl) at0 (pa_cons (pv 3) pa_nil)) pa_nil))))))))
          (fun a oe cls d pn hz hf => pss_one (ps_ret (by exact (pe_cmpR op_eq (pe_xf R.xf R.no hz hf (pv 6)) (pv 4) (nomark _))))))
      (pss_cons (ps_if (PW.pt (pw_or (pt_cmpR op_ne (pv 4) pe_str (nomark _)) (pw_or (pt_cmpR op_ne (pe_fld (pv 5) rfl) pe_str (nomark _)) (pw_or (pt_not (pt_val (pe_callB call_isi (by rfl) B.isinst (by decide +kernel) (pa_cons (pe_fld (pv 5) rfl) (pa_cons (pe_bltn (v := .ty "tuple") (by rfl) T.tuple (by decide +kernel) rfl) pa_nil)))))
          (pw_or1 (pt_cmpR op_ne (pe_callB call_len_seq (by rfl) L.len PySem.boot_len (pa_cons (pe_fld (pv 5) rfl) pa_nil)) pe_int (nomark _))))))) (pss_one (ps_ret pe_bl)) pss_nil)
      (pss_one (ps_ret (pe_and (pe_cmpR op_eq (pe_ix ix_tup (pe_fld (pv 5) rfl) pe_int (fun _ _ => rfl)) (pv 1) (nomark _)) (pe_and (pe_cmpR op_eq (pe_ix ix_tup (pe_fld (pv 5) rfl) pe_int (fun _ _ => rfl)) (pv 2) (nomark _))
          (pe_one (pe_cx (E := fun _ => E0) G.isTower hr (by omega) (by rfl) at0 (pa_cons (pe_ix ix_tup (pe_fld (pv 5) rfl) pe_int (fun _ _ => rfl)) (pa_cons (pv 3) pa_nil)))))))))))))), ?_⟩
    obtain ⟨v0, a0, b0, c0⟩ := row_get hlen hrow (i := 0) (by decide)
    obtain ⟨v1, a1, b1, c1⟩ := row_get hlen hrow (i := 1) (by decide)
    obtain ⟨v2, a2, b2, c2⟩ := row_get hlen hrow (i := 2) (by decide)
    refine q_someName (ea_cons (ev_row (K := K) rfl hl a0) ea_nil) b0 c0 (fun z hz H2 x2 => ?_)
    refine q_asg (v := .int (v1 % 8 - 1)) (ev_op (ev_rowM (K := K) rfl (x2 _ _ hl) a1 (by decide)) ev_c rv_I0) (fun H3 e3 => ?_)
    have x3 := x2.trans e3
    obtain ⟨n, hn, hn2⟩ : ∃ n : Nat, v2 % 20 = (n : Int) ∧ n < 20 := ⟨(v2 % 20).toNat, by omega, by omega⟩
    refine q_asg (v := .int ((n : Int) + 1)) (ev_is (ev_op ev_c (ev_rowM (K := K) rfl (x3 _ _ hl) a2 (by decide)) rv_I0) (by rw [hn]; show V.int (1 + (n : Int)) = _; rw [Int.add_comm])) (fun H4 e4 => ?_)
    have x4 := x3.trans e4
    refine q_asg (v := .str "") ev_c (fun H5 e5 => ?_)
    have x5 := x4.trans e5
    generalize hk2 : v1 % 8 - 1 = kk
    refine q_cut (M := fun σ' H' => σ' = [some (.ref l), some (.str z), some (.int kk), some (.int ((n : Int) + 1)), some (.str (dueN z kk n)), none, none] ∧ Ex H H') ?_ (fun σ6 H6 ⟨hσ6, x6⟩ => ?_)
    · refine s_if (b := !operandV (.str z)) (et_not (et_B (ev_cx (ea_cons (ev_var rfl) ea_nil) (fun H6 e6 Q' q' E' => ⟨.nm z, rfl, hz, fun H7 e7 => q' H7 e7⟩)))) (fun hb H6 e6 => ?_) (fun hb H6 e6 => ?_)
      · refine s_asg ev_c (fun H7 e7 => ⟨?_, (x5.trans e6).trans e7⟩)
        have hb' : nameS z = false := by
          have : operandV (.str z) = false := by simpa using hb
          exact this
        rw [show dueN z kk n = "name" by unfold dueN; rw [if_neg (by rw [hb']; decide)]]
        rfl
      · have hb' : nameS z = true := by
          have : operandV (.str z) = true := by simpa using hb
          exact this
        refine s_if (b := decide (kk < 1) || decide ((4 : Int) < kk)) (et_or (et_test (ev_op (ev_var rfl) ev_c rv_I0)) (fun _ => et_test (ev_op (ev_var rfl) ev_c rv_I0))) (fun hc H7 e7 => ?_) (fun hc H7 e7 => ?_)
        · refine s_asg ev_c (fun H8 e8 => ⟨?_, ((x5.trans e6).trans e7).trans e8⟩)
          have hs : seatsV (.int kk) = false := by
            show (decide (1 ≤ kk) && decide (kk ≤ 4)) = false
            have : kk < 1 ∨ 4 < kk := by simpa using hc
            simp only [Bool.and_eq_false_iff, decide_eq_false_iff_not]
            omega
          rw [show dueN z kk n = "seats" by unfold dueN; rw [if_pos hb', if_neg (by rw [hs]; decide)]]
          rfl
        · have hs : seatsV (.int kk) = true := by
            show (decide (1 ≤ kk) && decide (kk ≤ 4)) = true
            have : ¬ kk < 1 ∧ ¬ 4 < kk := by
              rw [Bool.or_eq_false_iff] at hc
              simpa using hc
            simp only [Bool.and_eq_true, decide_eq_true_eq]
            omega
          refine s_when (b := decide ((19 : Int) < (n : Int) + 1)) (et_test (ev_op (ev_var rfl) ev_c rv_I0)) (fun hd H8 e8 => ?_) (fun hd H8 e8 => ⟨?_, ((x5.trans e6).trans e7).trans e8⟩)
          · refine s_asg ev_c (fun H9 e9 => ⟨?_, (((x5.trans e6).trans e7).trans e8).trans e9⟩)
            have : (19 : Int) < (n : Int) + 1 := by simpa using hd
            rw [show dueN z kk n = "depth" by unfold dueN; rw [if_pos hb', if_pos hs, if_neg (by omega)]]
            rfl
          · have : ¬ (19 : Int) < (n : Int) + 1 := by simpa using hd
            rw [show dueN z kk n = "" by unfold dueN; rw [if_pos hb', if_pos hs, if_pos (by omega)]]
            rfl
    · subst hσ6
      obtain ⟨d1, d2⟩ := due_new (z := z) (k := kk) hn2
      refine ⟨rfl, _, rfl, _, rfl, _, rfl, n, rfl, hn2, fun b H7 hb e7 h7 => ⟨z, kk, b, tw n, rfl, (by have := set_len hz; omega), h7, fun hnone a H8 ha e8 h8 => ?_, fun f hf d H8 e8 hd h8 => ?_⟩⟩
      · have e0 := d1 hnone
        rw [e0]
        obtain ⟨t, ps, ⟨dx, g1⟩, g2, c, rfl, g3⟩ := h8.out
        have fp : ∀ {σ : L2.St} {H9 : Hp}, σ[5]? = some (some (.ref a)) → Ex H8 H9 → Ev (tFld K (tVar 5) "parts") σ H9 (.ref t) := fun hσ e => ev_fld (ev_var hσ) (e _ _ g1) T.cl T.nP pf_parts
        refine q_when (b := false) (et_is (et_or (a := false) (et_is (et_test (ev_op (ev_var rfl) ev_c (rv_ne rfl))) kNeE) (fun _ => et_or (a := false) (et_is (et_test (ev_op (ev_fld (ev_var rfl) g1 T.cl T.nK pf_kind) ev_c (rv_ne rfl))) kNe)
          (fun _ => et_or (a := false) (et_is (et_not (et_B (ev_cb (ea_cons (fp rfl (Ex.refl _)) (ea_cons ev_c ea_nil)) (rc_isTup g2)))) rfl) (fun _ => et_is (et_test (ev_op (x := .int 3) (ev_is (ev_lenT (K := K) (fp rfl (Ex.refl _)) (st_of g2)) rfl) ev_c (rv_ne rfl))) (by decide +kernel))))) rfl) (fun hb => nomatch hb) (fun _ H9 e9 => ?_)
        refine s_ret (v := .bl true) (ev_is (ev_andV (a := true) (ev_is (ev_op (ev_op (y := .int 0) (fp rfl e9) ev_c (rv_ixT (st_of (e9 _ _ g2)) rfl)) (ev_var rfl) (rv_eq rfl)) (by rw [decide_eq_true rfl])) (fun _ => ev_andV (a := true) (b := true) (ev_is (ev_op (ev_op (y := .int 1) (fp rfl e9) ev_c (rv_ixT (st_of (e9 _ _ g2)) rfl)) (ev_var rfl) (rv_eq rfl)) (by rw [decide_eq_true rfl]))
          (fun _ => ev_cx (ea_cons (ev_op (y := .int 2) (fp rfl e9) ev_c (rv_ixT (st_of (e9 _ _ g2)) rfl)) (ea_cons (ev_var rfl) ea_nil)) (fun H10 e10 Q' q' E' => ⟨n, c, rfl, hn2, g3.ex (e9.trans e10), fun H11 e11 => q' H11 e11⟩)))) rfl) (fun H10 e10 => q H10 (((x6.trans e7).trans e8).trans (e9.trans e10)))
      · obtain ⟨f1, f2⟩ := d2 f hf
        refine ⟨true, R.te, fun _ a ha => ?_, fun hq => nomatch hq⟩
        exact suite_field rfl rfl h8 f1.symm (q H8 ((x6.trans e7).trans e8))
end
end Fs

set_option Elab.async false
set_option linter.all false
set_option maxRecDepth 100000
set_option maxHeartbeats 4000000
namespace Fs
open PySem L2 Evl FsE FsC FsR
section
variable {P : Program} {w : World} {K : PySem.W.Frag} {mg : Str → Option Value} {base : Heap} {C CB : Addr}
def dueW (l r : Opd) (y n : Nat) : Str := if operandV l.v = true then (if operandV r.v = true then (if y ≤ 18 ∧ n ≤ 18 then "" else "depth") else "right") else "left"
theorem ne4 : ¬ (("left" : Str) = "") := by decide +kernel
theorem ne5 : ¬ (("right" : Str) = "") := by decide +kernel
theorem due_when {l r : Opd} {y n : Nat} (hy : y < 20) (hn : n < 20) : (badWhen l r (tw y) (tw n) = none → dueW l r y n = "") ∧ (∀ f, badWhen l r (tw y) (tw n) = some f → dueW l r y n = f ∧ ¬ f = "") := by
  unfold badWhen dueW badInit
  have e1 : (Pr.cond l r (tw y) (tw n)).depth = 1 + max ((y : Int) + 1) ((n : Int) + 1) := by
    unfold Pr.depth
    rw [tw_depth, tw_depth]
  have e2 : (Pr.cond l r (tw y) (tw n)).size = 1 + (((y : Int) + 1) + ((n : Int) + 1)) := by
    unfold Pr.size
    rw [tw_size, tw_size]
  rw [e1, e2]
  by_cases h1 : operandV l.v = true
  · rw [if_pos h1, if_pos h1]
    by_cases h2 : operandV r.v = true
    · rw [if_pos h2, if_pos h2]
      by_cases h3 : y ≤ 18 ∧ n ≤ 18
      · rw [if_pos h3, if_pos (by omega), if_pos (by omega)]
        exact ⟨fun _ => rfl, fun f hf => nomatch hf⟩
      · rw [if_neg h3, if_neg (by omega)]
        exact ⟨fun h => (nomatch h), fun f hf => ⟨Option.some.inj hf, by rw [← Option.some.inj hf]; exact ne3⟩⟩
    · rw [if_neg h2, if_neg h2]
      exact ⟨fun h => (nomatch h), fun f hf => ⟨Option.some.inj hf, by rw [← Option.some.inj hf]; exact ne5⟩⟩
  · rw [if_neg h1, if_neg h1]
    exact ⟨fun h => (nomatch h), fun f hf => ⟨Option.some.inj hf, by rw [← Option.some.inj hf]; exact ne4⟩⟩
theorem scal_opd (o : Opd) : scal o.v o.v = true := by
  cases o with
  | int i => rfl
  | nm z => rfl
theorem ev_good {σ : L2.St} {H : Hp} {i : Nat} {o : Opd} {E : L2.St → XK} (h : σ[i]? = some (some o.v)) (ho : OpdSet o) : Ev (tCallS spGood E (tCons (tVar i) tNil)) σ H (.bl (operandV o.v)) := ev_cx (ea_cons (ev_var h) ea_nil) (fun H6 e6 Q' q' E' => ⟨o, rfl, ho, fun H7 e7 => q' H7 e7⟩)
theorem kIfI : (!decide (V.str "if" = V.str "if")) = false := by decide +kernel
theorem scWhenL : FnScope ["_law_row_here", "_law_left", "_law_right", "_law_yes", "_law_no", "_law_due", "_law_made", "e"] ["_law_row_here"] (defScope (topS 41)) := ⟨rfl, rfl, rfl, by decide +kernel, rfl, by decide +kernel, by decide +kernel⟩
theorem ok_lwhen {f : Addr} {fd : FuncData} {k : Nat} (F : Fun K "_law_when" "_law_when" (topS 41) f fd) (L : LawT K mg) (B : BasT K mg) (T : TerT K mg C CB) (mgC : mg "Process" = some (.ref C)) (SW : StaX P w K mg base (L2.CX P w) k C "when" (spWhen C CB)) (G : HelpT P w K mg base C CB k) (R : ErrT K mg CB) : FnOk P w K mg base CX0 (k + 1 + 1) f fd ["_law_row_here"] (spTrueRow 8) := by
  refine F.ok scWhenL (fun vs H Q E h => ?_) (fun cdv A outer s H vs Q E hr h => ?_)
  · obtain ⟨l, row, rfl, _⟩ := h
    rfl
  · obtain ⟨l, row, rfl, hl, hlen, hrow, q⟩ := h
    have hk := G.hk
    refine ⟨_, pss_cons (ps_set (i := 1) scWhenL.nd rfl (Or.inl rfl) (pe_cx (E := fun _ => E0) G.operand hr (by omega) (by rfl) at0 (pa_cons (pe_ix ix_list (pv 0) pe_int (fun _ _ => rfl)) pa_nil)))
      (pss_cons (ps_set (i := 2) scWhenL.nd rfl (Or.inl rfl) (pe_cx (E := fun _ => E0) G.operand hr (by omega) (by rfl) at0 (pa_cons (pe_ix ix_list (pv 0) pe_int (fun _ _ => rfl)) pa_nil)))
      (pss_cons (ps_set (i := 3) scWhenL.nd rfl (Or.inl rfl) (pe_op op_add pe_int (pe_op op_mod (pe_callTy call_int1 (by rfl) L.int (by decide +kernel) (pa_cons (pe_ix ix_list (pv 0) pe_int (fun _ _ => rfl)) pa_nil)) pe_int)))
      (pss_cons (ps_set (i := 4) scWhenL.nd rfl (Or.inl rfl) (pe_op op_add pe_int (pe_op op_mod (pe_callTy call_int1 (by rfl) L.int (by decide +kernel) (pa_cons (pe_ix ix_list (pv 0) pe_int (fun _ _ => rfl)) pa_nil)) pe_int)))
      (pss_cons (ps_set (i := 5) scWhenL.nd rfl (Or.inl rfl) pe_str)
      (pss_cut (ps_if (pt_not (pt_val (pe_cx (E := fun _ => E0) G.good hr (by omega) (by rfl) at0 (pa_cons (pv 1) pa_nil)))) (pss_one (ps_set (i := 5) scWhenL.nd rfl (Or.inl rfl) pe_str))
          (pss_one (ps_if (pt_not (pt_val (pe_cx (E := fun _ => E0) G.good hr (by omega) (by rfl) at0 (pa_cons (pv 2) pa_nil)))) (pss_one (ps_set (i := 5) scWhenL.nd rfl (Or.inl rfl) pe_str))
            (pss_one (ps_if (PW.pt (pw_or (pt_cmpR op_gt (pv 3) pe_int (nomark _)) (pw_or1 (pt_cmpR op_gt (pv 4) pe_int (nomark _))))) (pss_one (ps_set (i := 5) scWhenL.nd rfl (Or.inl rfl) pe_str)) pss_nil)))))
      (pss_cons (ps_try_as (i := 7) (tb := fun W => tAsg (tStat C (spWhen C CB) (WE W) (tC (.ref C)) (tCons (tVar 1) (tCons (tVar 2) (tCons (tCallS (spTower C) (fun _ => E0) (tCons (tVar 3) tNil)) (tCons (tCallS (spTower C) (fun _ => E0) (tCons (tVar 4) tNil)) tNil))))) (gName 6))
          (ts := fun a cls d => tRet (tOp rEq (tXf a cls d CB "field" (tVar 7)) (tVar 5))) (Wout := fun _ _ _ _ => False) rfl rfl scWhenL.nd rfl rfl ⟨rfl, by decide, Or.inl R.gB⟩ takes0
          (fun W pn xe tk _ => pss_one (ps_set (i := 6) scWhenL.nd rfl (Or.inl rfl) (by exact (pe_sx SW hr (by omega) (pe_glob (v := .ref C) (by rfl) mgC rfl) (fun σ => passAt tk σ)
            (by exact (pa_cons (pv 1) (pa_cons (pv 2) (pa_cons (pe_cx (E := fun _ => E0) G.tower hr (Nat.le_refl _) (by rfl) at0 (pa_cons (pv 3) pa_nil)) (pa_cons (pe_cx (E := fun _ => E0) G.tower hr (Nat.le_refl _) (by rfl) at0 (pa_cons (pv 4) pa_nil)) pa_nil)))))))))
          (fun a oe cls d pn hz hf => pss_one (ps_ret (by exact (pe_cmpR op_eq (pe_xf R.xf R.no hz hf (pv 7)) (pv 5) (nomark _))))))
      (pss_cons (ps_if (PW.pt (pw_or (pt_cmpR op_ne (pv 5) pe_str (nomark _)) (pw_or (pt_cmpR op_ne (pe_fld (pv 6) rfl) pe_str (nomark _)) (pw_or (pt_not (pt_val (pe_callB call_isi (by rfl) B.isinst (by decide +kernel) (pa_cons (pe_fld (pv 6) rfl) (pa_cons (pe_bltn (v := .ty "tuple") (by rfl) T.tuple (by decide +kernel) rfl) pa_nil)))))
          (pw_or1 (pt_cmpR op_ne (pe_callB call_len_seq (by rfl) L.len PySem.boot_len (pa_cons (pe_fld (pv 6) rfl) pa_nil)) pe_int (nomark _))))))) (pss_one (ps_ret pe_bl)) pss_nil)
      (pss_cons (ps_if (PW.pt (pw_or (pt_cmpR op_ne (pe_ix ix_tup (pe_fld (pv 6) rfl) pe_int (fun _ _ => rfl)) (pv 1) (nomark _)) (pw_or1 (pt_cmpR op_ne (pe_ix ix_tup (pe_fld (pv 6) rfl) pe_int (fun _ _ => rfl)) (pv 2) (nomark _))))) (pss_one (ps_ret pe_bl)) pss_nil)
      (pss_one (ps_ret (pe_and (pe_cx (E := fun _ => E0) G.isTower hr (by omega) (by rfl) at0 (pa_cons (pe_ix ix_tup (pe_fld (pv 6) rfl) pe_int (fun _ _ => rfl)) (pa_cons (pv 3) pa_nil)))
          (pe_one (pe_cx (E := fun _ => E0) G.isTower hr (by omega) (by rfl) at0 (pa_cons (pe_ix ix_tup (pe_fld (pv 6) rfl) pe_int (fun _ _ => rfl)) (pa_cons (pv 4) pa_nil))))))))))))))), ?_⟩
    obtain ⟨v0, a0, b0, c0⟩ := row_get hlen hrow (i := 0) (by decide)
    obtain ⟨v1, a1, b1, c1⟩ := row_get hlen hrow (i := 1) (by decide)
    obtain ⟨v2, a2, b2, c2⟩ := row_get hlen hrow (i := 2) (by decide)
    obtain ⟨v3, a3, b3, c3⟩ := row_get hlen hrow (i := 3) (by decide)
    refine q_someOperand (ea_cons (ev_row (K := K) rfl hl a0) ea_nil) b0 c0 (fun lf hlf H1 x1 => ?_)
    refine q_someOperand (ea_cons (ev_row (K := K) rfl (x1 _ _ hl) a1) ea_nil) b1 c1 (fun rg hrg H2 e2 => ?_)
    have x2 := x1.trans e2
    obtain ⟨y, hy, hy2⟩ : ∃ n : Nat, v2 % 20 = (n : Int) ∧ n < 20 := ⟨(v2 % 20).toNat, by omega, by omega⟩
    obtain ⟨n, hn, hn2⟩ : ∃ n : Nat, v3 % 20 = (n : Int) ∧ n < 20 := ⟨(v3 % 20).toNat, by omega, by omega⟩
    refine q_asg (v := .int ((y : Int) + 1)) (ev_is (ev_op ev_c (ev_rowM (K := K) rfl (x2 _ _ hl) a2 (by decide)) rv_I0) (by rw [hy]; show V.int (1 + (y : Int)) = _; rw [Int.add_comm])) (fun H3 e3 => ?_)
    have x3 := x2.trans e3
    refine q_asg (v := .int ((n : Int) + 1)) (ev_is (ev_op ev_c (ev_rowM (K := K) rfl (x3 _ _ hl) a3 (by decide)) rv_I0) (by rw [hn]; show V.int (1 + (n : Int)) = _; rw [Int.add_comm])) (fun H4 e4 => ?_)
    have x4 := x3.trans e4
    refine q_asg (v := .str "") ev_c (fun H5 e5 => ?_)
    have x5 := x4.trans e5
    refine q_cut (M := fun σ' H' => σ' = [some (.ref l), some lf.v, some rg.v, some (.int ((y : Int) + 1)), some (.int ((n : Int) + 1)), some (.str (dueW lf rg y n)), none, none] ∧ Ex H H') ?_ (fun σ6 H6 ⟨hσ6, x6⟩ => ?_)
    · refine s_if (b := !operandV lf.v) (et_not (et_B (ev_good rfl hlf))) (fun hb H6 e6 => ?_) (fun hb H6 e6 => ?_)
      · refine s_asg ev_c (fun H7 e7 => ⟨?_, (x5.trans e6).trans e7⟩)
        rw [show dueW lf rg y n = "left" by unfold dueW; rw [if_neg (by simpa using hb)]]
        rfl
      · have h1 : operandV lf.v = true := by simpa using hb
        refine s_if (b := !operandV rg.v) (et_not (et_B (ev_good rfl hrg))) (fun hb2 H7 e7 => ?_) (fun hb2 H7 e7 => ?_)
        · refine s_asg ev_c (fun H8 e8 => ⟨?_, ((x5.trans e6).trans e7).trans e8⟩)
          rw [show dueW lf rg y n = "right" by unfold dueW; rw [if_pos h1, if_neg (by simpa using hb2)]]
          rfl
        · have h2 : operandV rg.v = true := by simpa using hb2
          refine s_when (b := decide ((19 : Int) < (y : Int) + 1) || decide ((19 : Int) < (n : Int) + 1)) (et_or (et_test (ev_op (ev_var rfl) ev_c rv_I0)) (fun _ => et_test (ev_op (ev_var rfl) ev_c rv_I0))) (fun hd H8 e8 => ?_) (fun hd H8 e8 => ⟨?_, ((x5.trans e6).trans e7).trans e8⟩)
          · refine s_asg ev_c (fun H9 e9 => ⟨?_, (((x5.trans e6).trans e7).trans e8).trans e9⟩)
            have : (19 : Int) < (y : Int) + 1 ∨ (19 : Int) < (n : Int) + 1 := by simpa only [Bool.or_eq_true, decide_eq_true_eq] using hd
            rw [show dueW lf rg y n = "depth" by unfold dueW; rw [if_pos h1, if_pos h2, if_neg (by omega)]]
            rfl
          · have : ¬ (19 : Int) < (y : Int) + 1 ∧ ¬ (19 : Int) < (n : Int) + 1 := by simpa only [Bool.or_eq_false_iff, decide_eq_false_iff_not] using hd
            rw [show dueW lf rg y n = "" by unfold dueW; rw [if_pos h1, if_pos h2, if_pos (by omega)]]
            rfl
    · subst hσ6
      obtain ⟨d1, d2⟩ := due_when (l := lf) (r := rg) hy2 hn2
      refine ⟨rfl, _, rfl, _, rfl, _, rfl, y, rfl, hy2, fun b H7 hb e7 h7 => ⟨_, rfl, n, rfl, hn2, fun c H8 hc e8 h8 => ⟨lf, rg, b, c, tw y, tw n, rfl, hlf.ok, hrg.ok, h7.ex e8, h8, fun hnone a H9 ha e9 h9 => ?_, fun f hf d H9 e9 hd h9 => ?_⟩⟩⟩
      · have e0 := d1 hnone
        rw [e0]
        obtain ⟨t, ps, ⟨dx, g1⟩, g2, c1, c2, rfl, g3, g4⟩ := h9.out
        have fp : ∀ {σ : L2.St} {H9' : Hp}, σ[6]? = some (some (.ref a)) → Ex H9 H9' → Ev (tFld K (tVar 6) "parts") σ H9' (.ref t) := fun hσ e => ev_fld (ev_var hσ) (e _ _ g1) T.cl T.nP pf_parts
        refine q_when (b := false) (et_is (et_or (a := false) (et_is (et_test (ev_op (ev_var rfl) ev_c (rv_ne rfl))) kNeE) (fun _ => et_or (a := false) (et_is (et_test (ev_op (ev_fld (ev_var rfl) g1 T.cl T.nK pf_kind) ev_c (rv_ne rfl))) kIfI)
          (fun _ => et_or (a := false) (et_is (et_not (et_B (ev_cb (ea_cons (fp rfl (Ex.refl _)) (ea_cons ev_c ea_nil)) (rc_isTup g2)))) rfl) (fun _ => et_is (et_test (ev_op (x := .int 4) (ev_is (ev_lenT (K := K) (fp rfl (Ex.refl _)) (st_of g2)) rfl) ev_c (rv_ne rfl))) (by decide +kernel))))) rfl) (fun hb => nomatch hb) (fun _ H10 e10 => ?_)
        refine q_when (b := false) (et_is (et_or (a := false) (et_is (et_test (ev_op (ev_op (y := .int 0) (fp rfl e10) ev_c (rv_ixT (st_of (e10 _ _ g2)) rfl)) (ev_var rfl) (rv_ne (scal_opd lf)))) (by rw [decide_eq_true rfl]; rfl)) (fun _ => et_is (et_test (ev_op (ev_op (y := .int 1) (fp rfl e10) ev_c (rv_ixT (st_of (e10 _ _ g2)) rfl)) (ev_var rfl) (rv_ne (scal_opd rg)))) (by rw [decide_eq_true rfl]; rfl))) rfl) (fun hb => nomatch hb) (fun _ H11 e11 => ?_)
        have e12 := e10.trans e11
        refine s_ret (v := .bl true) (ev_is (ev_andV (a := true) (b := true) (ev_cx (ea_cons (ev_op (y := .int 2) (fp rfl e12) ev_c (rv_ixT (st_of (e12 _ _ g2)) rfl)) (ea_cons (ev_var rfl) ea_nil)) (fun H13 e13 Q' q' E' => ⟨y, c1, rfl, hy2, g3.ex (e12.trans e13), fun H14 e14 => q' H14 e14⟩))
          (fun _ => ev_cx (ea_cons (ev_op (y := .int 3) (fp rfl e12) ev_c (rv_ixT (st_of (e12 _ _ g2)) rfl)) (ea_cons (ev_var rfl) ea_nil)) (fun H13 e13 Q' q' E' => ⟨n, c2, rfl, hn2, g4.ex (e12.trans e13), fun H14 e14 => q' H14 e14⟩))) rfl) (fun H13 e13 => q H13 ((((x6.trans e7).trans e8).trans e9).trans (e12.trans e13)))
      · obtain ⟨f1, f2⟩ := d2 f hf
        refine ⟨true, R.te, fun _ a ha => ?_, fun hq => nomatch hq⟩
        exact suite_field rfl rfl h9 f1.symm (q H9 (((x6.trans e7).trans e8).trans e9))
end
end Fs

set_option Elab.async false
set_option linter.all false
set_option maxRecDepth 100000
set_option maxHeartbeats 4000000
namespace Fs
open PySem L2 Evl FsE FsC FsR
section
variable {P : Program} {w : World} {K : PySem.W.Frag} {mg : Str → Option Value} {base : Heap} {C CB : Addr}
/-- x = [(some operand) for k in range(n)] -/
theorem q_ops {σ : L2.St} {H : Hp} {tn : TA} {te : TE} {n : Int} {i j : Nat} {vs : List Nat} {tz : TS} {D : Ends} (h : EvA tn σ H [.int n]) (hn : 0 ≤ n ∧ n ≤ 100) (hw : ∀ x, wipe ((wipe σ vs).set j (some x)) vs = wipe σ vs)
    (he : ∀ (m : Nat) H1, Ex H H1 → (m : Int) < n → ∀ Q : VK, (∀ o, OpdSet o → ∀ H2, Ex H1 H2 → Q o.v H2) → te ((wipe σ vs).set j (some (.int (m : Int)))) H1 Q)
    (k : ∀ (p : Addr) (ops : List Opd) (H1 : Hp), H p = none → Ex H H1 → H1 p = some (.lst (ops.map Opd.v)) → (ops.length : Int) = n → (∀ o ∈ ops, OpdSet o) → tz D (σ.set i (some (.ref p))) H1) : tSeq (tAsg (tLc (iRng1 tn) (gName j) tYes te vs) (gName i)) tz D σ H :=
  h H (Ex.refl H) _ fun H1 e1 => ⟨n, rfl, by omega, by omega, fun Dl hD =>
    lc_range (lo := 0) (n := n.toNat) (fun m H' => ∃ ops : List Opd, ops.length = m ∧ (∀ o ∈ ops, OpdSet o) ∧ H' Dl = some (.lst (ops.map Opd.v)) ∧ Ex H1 H')
      ⟨[], rfl, (fun o ho => nomatch ho), upd_same, Ex.new hD⟩ (fun m H' hm ⟨ops, h1, h2, h3, h4⟩ => by
        have e0 : (0 : Int) + (m : Int) = (m : Int) := Int.zero_add _
        show wipe ((wipe σ vs).set j (some (.int ((0 : Int) + (m : Int))))) vs = wipe σ vs ∧ _
        rw [e0]
        refine ⟨hw _, ?_⟩
        show te ((wipe σ vs).set j (some (.int (m : Int)))) H' _
        refine he m H' (e1.trans h4) (by omega) _ fun o ho H2 e2 => ⟨ops.map Opd.v, e2 _ _ h3, sz_lt (by rw [List.length_map]; omega), ops ++ [o], by rw [List.length_append, h1]; rfl, fun o' ho' => ?_, by rw [List.map_append]; exact upd_same, Ex.mut (h4.trans e2) hD⟩
        rcases List.mem_append.mp ho' with ho' | ho'
        · exact h2 o' ho'
        · rw [List.mem_singleton.mp ho']
          exact ho) (fun H' ⟨ops, h1, h2, h3, h4⟩ => k Dl ops H' (fresh_back e1 hD) (e1.trans h4) h3 (by omega) h2)⟩
/-! the operands as data -/
def opD : Opd → PyData
  | .int i => .int i
  | .nm z => .str z
theorem strOk_set {z : Str} (h : NameSet z) : PyData.strOk z = true := by
  rcases h with h | ⟨c1, c2, h1, h2, rfl⟩
  · have hd : ∀ z ∈ badL, PyData.strOk z = true := by decide +kernel
    exact hd z h
  · unfold PyData.strOk
    rw [← Array.all_toList, three_cps]
    have hd : ∀ c ∈ lettersS.cps.toList, decide (c < 0x110000) = true := by decide +kernel
    simp only [List.all_cons, List.all_nil, Bool.and_true, Bool.and_eq_true]
    exact ⟨hd c1 h1, hd c2 h2, by decide⟩
theorem dp_opd {H : Hp} (o : Opd) : Dp K H o.v (opD o) := by
  cases o with
  | int i => exact .int i
  | nm z => exact .str z
theorem dp_ops {H : Hp} : ∀ ops : List Opd, DpAll K H (ops.map Opd.v) (ops.map opD)
  | [] => .nil
  | o :: ops => .cons (dp_opd o) (dp_ops ops)
theorem lay_ops : ∀ {ops : List Opd}, (∀ o ∈ ops, OpdSet o) → PyData.canLayAll0 (ops.map opD) = true
  | [], _ => by simp [PyData.canLayAll0]
  | o :: ops, h => by
    have ih := lay_ops (ops := ops) fun o' ho' => h o' (List.mem_cons_of_mem _ ho')
    have h1 : (opD o).canLay0 = true := by
      cases o with
      | int i => simp [opD, PyData.canLay0]
      | nm z =>
        have := strOk_set (h (.nm z) List.mem_cons_self)
        simp [opD, PyData.canLay0, this]
    rw [List.map_cons]
    simp [PyData.canLayAll0, h1, ih]
theorem dep_ops : ∀ ops : List Opd, PyData.depthAll (ops.map opD) = 0
  | [] => by simp [PyData.depthAll]
  | o :: ops => by
    rw [List.map_cons]
    simp only [PyData.depthAll]
    rw [dep_ops ops]
    cases o with
    | int i => simp [opD, PyData.depth]
    | nm z => simp [opD, PyData.depth]
theorem sh_lst {ops : List Opd} (h : ∀ o ∈ ops, OpdSet o) : SeqAt.shaped (.list (ops.map opD)) = true := by
  unfold SeqAt.shaped
  simp only [PyData.canLay0, PyData.depth, lay_ops h, dep_ops]
  decide
theorem sh_call {z : Str} {ops : List Opd} (hz : NameSet z) (h : ∀ o ∈ ops, OpdSet o) : SeqAt.shaped (.tuple [.str z, .tuple (ops.map opD)]) = true := by
  unfold SeqAt.shaped
  simp only [PyData.canLay0, PyData.canLayAll0, PyData.depth, PyData.depthAll, lay_ops h, dep_ops, strOk_set hz]
  decide
def dueC (z : Str) (ops : List Opd) : Str := if nameS z = true then (if opsOk ops = true then "" else "operands") else "name"
theorem ne6 : ¬ (("operands" : Str) = "") := by decide +kernel
theorem due_call (z : Str) (ops : List Opd) : (badCall z ops = none → dueC z ops = "") ∧ (∀ f, badCall z ops = some f → dueC z ops = f ∧ ¬ f = "") := by
  unfold badCall dueC badInit
  have e1 : (Pr.call z ops).depth = 1 := by unfold Pr.depth; rfl
  have e2 : (Pr.call z ops).size = 1 := by unfold Pr.size; rfl
  rw [e1, e2]
  by_cases h1 : nameS z = true
  · rw [if_pos h1, if_pos h1]
    by_cases h2 : opsOk ops = true
    · rw [if_pos h2, if_pos h2, if_pos (by decide), if_pos (by decide)]
      exact ⟨fun _ => rfl, fun f hf => nomatch hf⟩
    · rw [if_neg h2, if_neg h2]
      exact ⟨fun h => (nomatch h), fun f hf => ⟨Option.some.inj hf, by rw [← Option.some.inj hf]; exact ne6⟩⟩
  · rw [if_neg h1, if_neg h1]
    exact ⟨fun h => (nomatch h), fun f hf => ⟨Option.some.inj hf, by rw [← Option.some.inj hf]; exact ne1⟩⟩
theorem te_someOperand {σ : L2.St} {H : Hp} {ta : TA} {d : Int} {E : L2.St → XK} {Q : VK} (h : EvA ta σ H [.int d]) (h0 : 0 ≤ d) (h1 : d < 1000) (k : ∀ o, OpdSet o → ∀ H2, Ex H H2 → Q o.v H2) : tCallS spSomeOperand E ta σ H Q :=
  h H (Ex.refl H) _ fun H1 e1 => ⟨d, rfl, h0, h1, fun z hz H2 e2 => k z hz H2 (e1.trans e2)⟩
/-- xs + [] -/
theorem el_cat0 {σ : L2.St} {H : Hp} {i : Nat} {lo : Addr} {xs : List V} (hσ : σ[i]? = some (some (.ref lo))) (h : H lo = some (.lst xs)) (hz : xs.length ≤ 100000) : EvL (tOp rCat (tVar i) (tLst tNil)) σ H xs := fun H1 e Q q =>
  ⟨_, hσ, Nat.zero_le _, fun b hb => ⟨lo, b, xs, [], rfl, rfl, Ex.new hb _ _ (e _ _ h), upd_same, sz_of (by simpa using hz), fun p hp => by
    have g := q p (upd (upd H1 b (.lst [])) p (.lst (xs ++ []))) (fresh_back (Ex.new hb) hp) ((Ex.new hb).trans (Ex.new hp)) (by rw [List.append_nil]; exact upd_same)
    exact g⟩⟩
theorem kCallI : decide (V.str "call" = V.str "call") = true := by decide +kernel
theorem suite_both {σ : L2.St} {H : Hp} {a d lp lo : Addr} {z due : Str} {D : Ends} {i j m n : Nat} {ops : List Opd} (hσ : σ[i]? = some (some (.ref a))) (hj : σ[j]? = some (some (.str due))) (hm : σ[m]? = some (some (.ref lp))) (hn : σ[n]? = some (some (.ref lo))) (hd : H d = some (.xd [("field", .str z)])) (e : z = due)
    (h1 : H lp = some (.lst (ops.map Opd.v))) (h2 : H lo = some (.lst (ops.map Opd.v))) (ho : ∀ o ∈ ops, OpdSet o) (k : D.rt (.bl true) H) :
    tRet (tAndV (tOp rEq (tXf a (.ref CB) (some d) CB "field" (tVar i)) (tVar j)) (tOp (rEqD K) (tVar m) (tVar n))) D σ H := by
  refine ⟨_, hσ, rfl, rfl, d, _, .str z, rfl, hd, rfl, _, hj, rfl, ?_⟩
  subst e
  refine ⟨true, by rw [decide_eq_true rfl], ?_⟩
  refine ⟨_, hm, _, hn, .list (ops.map opD), .list (ops.map opD), .lst (sq_of h1) (dp_ops ops), .lst (sq_of h2) (dp_ops ops), sh_lst ho, sh_lst ho, ?_⟩
  rw [SeqAt.eqv_refl _ (SeqAt.canLay_of_shaped (sh_lst ho))]
  exact k
theorem scCallL : FnScope ["_law_row_here", "_law_name", "_law_operands", "_law_due", "_law_passed", "_law_given", "_law_made", "e", "_law_k", "_law_one"] ["_law_row_here"] (defScope (topS 42)) := ⟨rfl, rfl, rfl, by decide +kernel, rfl, by decide +kernel, by decide +kernel⟩
theorem ok_lcall {f : Addr} {fd : FuncData} {k : Nat} (F : Fun K "_law_call" "_law_call" (topS 42) f fd) (L : LawT K mg) (B : BasT K mg) (T : TerT K mg C CB) (mgC : mg "Process" = some (.ref C)) (SC : StaX P w K mg base (L2.CX P w) k C "call" (spCall K C CB)) (G : HelpT P w K mg base C CB k) (R : ErrT K mg CB) : FnOk P w K mg base CX0 (k + 1 + 1) f fd ["_law_row_here"] (spTrueRow 8) := by
  refine F.ok scCallL (fun vs H Q E h => ?_) (fun cdv A outer s H vs Q E hr h => ?_)
  · obtain ⟨l, row, rfl, _⟩ := h
    rfl
  · obtain ⟨l, row, rfl, hl, hlen, hrow, q⟩ := h
    have hk := G.hk
    refine ⟨_, pss_cons (ps_set (i := 1) scCallL.nd rfl (Or.inl rfl) (pe_cx (E := fun _ => E0) G.name hr (by omega) (by rfl) at0 (pa_cons (pe_ix ix_list (pv 0) pe_int (fun _ _ => rfl)) pa_nil)))
      (pss_cons (ps_setLc (i := 2) (own := [("_law_k", 8)]) (g := gName 8) (tt := tYes) (te := tCallS spSomeOperand (fun _ => E0) (tCons (tOp (rIxL K) (tVar 0) (tOp (rI0 fun i j => .int (i + j)) (tC (.int 2)) (tVar 8))) tNil)) rfl scCallL.nd rfl rfl (sw_true rfl rfl rfl (by decide +kernel))
          (pi_range1 rfl L.range (pa_cons (pe_op op_mod (pe_callTy call_int1 (by rfl) L.int (by decide +kernel) (pa_cons (pe_ix ix_list (pv 0) pe_int (fun _ _ => rfl)) pa_nil)) pe_int) pa_nil))
          (blkOk_by (own := [("_law_k", 8)]) (N := ["_law_row_here", "_law_name", "_law_operands", "_law_due", "_law_passed", "_law_given", "_law_made", "e", "_law_k", "_law_one"]) (sc := defScope (topS 42)) (by decide +kernel))
          (fun _ _ _ _ _ => pg_name (i := 8) scCallL.nd rfl (Or.inl rfl)) (fun _ _ _ _ _ => pts_nil)
          (fun _ _ _ _ _ => pe_cx (E := fun _ => E0) G.operand hr (by omega) (by rfl) at0 (pa_cons (pe_ix (r := rIxL K) ix_list (pv 0) (pe_op op_add pe_int (pv 8)) (fun _ _ => rfl)) pa_nil)))
      (pss_cons (ps_set (i := 3) scCallL.nd rfl (Or.inl rfl) pe_str)
      (pss_cut (ps_if (pt_not (pt_val (pe_cx (E := fun _ => E0) G.good hr (by omega) (by rfl) at0 (pa_cons (pv 1) pa_nil)))) (pss_one (ps_set (i := 3) scCallL.nd rfl (Or.inl rfl) pe_str))
          (pss_one (ps_if (PW.pt (pw_or (pt_cmpR op_gt (pe_callB call_len_seq (by rfl) L.len PySem.boot_len (pa_cons (pv 2) pa_nil)) pe_int (nomark _)) (pw_or1 (pt_not (pt_val (pe_callB (cr_all rfl) (by rfl) B.all (by decide +kernel) (pa_cons
            (pe_lc (own := [("_law_one", 9)]) (g := gName 9) (tt := tYes) (te := tCallS spGood (fun _ => E0) (tCons (tVar 9) tNil)) rfl scCallL.nd (pi_list (pv 2)) (blkOk_by (own := [("_law_one", 9)]) (N := ["_law_row_here", "_law_name", "_law_operands", "_law_due", "_law_passed", "_law_given", "_law_made", "e", "_law_k", "_law_one"]) (sc := defScope (topS 42)) (by decide +kernel))
              (fun _ _ _ _ _ => pg_name (i := 9) scCallL.nd rfl (Or.inl rfl)) (fun _ _ _ _ _ => pts_nil) (fun _ _ _ _ _ => pe_cx (E := fun _ => E0) G.good hr (by omega) (by rfl) at0 (pa_cons (pv 9) pa_nil))) pa_nil))))))) (pss_one (ps_set (i := 3) scCallL.nd rfl (Or.inl rfl) pe_str)) pss_nil)))
      (pss_cons (ps_set (i := 4) scCallL.nd rfl (Or.inl rfl) (pe_op op_cat (pv 2) (pe_lst pa_nil)))
      (pss_cons (ps_set (i := 5) scCallL.nd rfl (Or.inl rfl) (pv 4))
      (pss_cut (ps_if (pt_cmpR op_eq (pe_op op_mod (pe_op op_fdiv (pe_ix ix_list (pv 0) pe_int (fun _ _ => rfl)) pe_int) pe_int) pe_int (nomark _)) (pss_one (ps_set (i := 5) scCallL.nd rfl (Or.inl rfl) (pe_callTy call_tuple_of (by rfl) T.tuple (by decide +kernel) (pa_cons (pv 2) pa_nil)))) pss_nil)
      (pss_cons (ps_try_as (i := 7) (tb := fun W => tAsg (tStat C (spCall K C CB) (WE W) (tC (.ref C)) (tCons (tVar 1) (tCons (tVar 5) tNil))) (gName 6))
          (ts := fun a cls d => tRet (tAndV (tOp rEq (tXf a cls d CB "field" (tVar 7)) (tVar 3)) (tOp (rEqD K) (tVar 4) (tVar 2)))) (Wout := fun _ _ _ _ => False) rfl rfl scCallL.nd rfl rfl ⟨rfl, by decide, Or.inl R.gB⟩ takes0
          (fun W pn xe tk _ => pss_one (ps_set (i := 6) scCallL.nd rfl (Or.inl rfl) (by exact (pe_sx SC hr (by omega) (pe_glob (v := .ref C) (by rfl) mgC rfl) (fun σ => passAt tk σ) (by exact (pa_cons (pv 1) (pa_cons (pv 5) pa_nil)))))))
          (fun a oe cls d pn hz hf => pss_one (ps_ret (by exact (pe_and (pe_cmpR op_eq (pe_xf R.xf R.no hz hf (pv 7)) (pv 3) (nomark _)) (pe_one (pe_cmpR (op_eqD hr.units) (pv 4) (pv 2) (nomark _))))))))
      (pss_cons (ps_if (PW.pt (pw_or (pt_cmpR op_ne (pv 3) pe_str (nomark _)) (pw_or1 (pt_cmpR (op_neD hr.units) (pv 4) (pv 2) (nomark _))))) (pss_one (ps_ret pe_bl)) pss_nil)
      (pss_cons (ps_expr (pe_bm PySem.F.plainAttrs_list PySem.F.slot_list_append PySem.F.type_list_append mt_append (pv 4) (pa_cons pe_int pa_nil)))
      (pss_one (ps_ret (pe_and (pe_cmpR op_eq (pe_fld (pv 6) rfl) pe_str (nomark _)) (pe_one (pe_cmpR (op_eqD hr.units) (pe_fld (pv 6) rfl) (pe_tup (pa_cons (pv 1) (pa_cons (pe_callTy call_tuple_of (by rfl) T.tuple (by decide +kernel) (pa_cons (pv 2) pa_nil)) pa_nil))) (nomark _))))))))))))))), ?_⟩
    obtain ⟨v0, a0, b0, c0⟩ := row_get hlen hrow (i := 0) (by decide)
    obtain ⟨v1, a1, b1, c1⟩ := row_get hlen hrow (i := 1) (by decide)
    refine q_someName (ea_cons (ev_row (K := K) rfl hl a0) ea_nil) b0 c0 (fun z hz H1 x1 => ?_)
    have m0 := Int.emod_nonneg v1 (b := 7) (by decide)
    have m1 := Int.emod_lt_of_pos v1 (b := 7) (by decide)
    refine q_ops (n := v1 % 7) (ea_cons (ev_rowM (K := K) rfl (x1 _ _ hl) a1 (by decide)) ea_nil) (by omega) (fun _ => rfl) (fun m H2 e2 hm Q' q' => ?_) (fun lo ops H2 hlo e2 h2 hlen2 hops => ?_)
    · obtain ⟨v, av, bv, cv⟩ := row_get hlen hrow (i := 2 + m) (by omega)
      refine te_someOperand (d := v) (ea_cons (ev_op (y := .int (2 + (m : Int))) (ev_var rfl) (ev_op ev_c (ev_var rfl) rv_I0) (rv_ixL (sq_of ((x1.trans e2) _ _ hl)) (by rw [show (2 : Int) + (m : Int) = ((2 + m : Nat) : Int) by omega]; exact av))) ea_nil) bv cv q'
    have x2 := x1.trans e2
    have hl40 : (ops.map Opd.v).length ≤ 40000 := by rw [List.length_map]; omega
    have hbs : ((ops.map fun o => operandV o.v).map V.bl).length = (ops.map Opd.v).length := by simp
    have hok : ∀ o ∈ ops, o.ok := fun o ho => (hops o ho).ok
    refine q_asg (v := .str "") ev_c (fun H3 e3 => ?_)
    have x3 := x2.trans e3
    refine q_cut (M := fun σ' H' => σ' = [some (.ref l), some (.str z), some (.ref lo), some (.str (dueC z ops)), none, none, none, none, none, none] ∧ Ex H3 H') ?_ (fun σ4 H4 ⟨hσ4, e4⟩ => ?_)
    · refine s_if (b := !operandV (.str z)) (et_not (et_B (ev_good (o := .nm z) rfl hz))) (fun hb H4 e4 => ?_) (fun hb H4 e4 => ?_)
      · have h1 : operandV (.str z) = false := by simpa using hb
        refine s_asg ev_c (fun H5 e5 => ⟨?_, e4.trans e5⟩)
        rw [show dueC z ops = "name" by unfold dueC; rw [if_neg (by rw [show nameS z = false from h1]; decide)]]
        rfl
      · have h1 : operandV (.str z) = true := by simpa using hb
        have hlo4 := (e3.trans e4) _ _ h2
        refine s_when (b := !opsOk ops) (et_is (et_or (et_test (ev_op (ev_cb (ea_cons (ev_var rfl) ea_nil) (fun H5 e5 Q' q' => ⟨lo, _, rfl, .inl (sq_of (e5 _ _ hlo4)), q' H5 (Ex.refl H5)⟩)) ev_c rv_I0)) (fun _ => et_not (et_B (ev_all (bs := ops.map fun o => operandV o.v)
          (el_lcLy (ev_var rfl) (sq_of hlo4) hl40 (fun _ => rfl) hbs (fun i x y H5 e5 hx hy => ?_)))))) ?_) (fun hb2 H5 e5 => ?_) (fun hb2 H5 e5 => ⟨?_, e4.trans e5⟩)
        · rw [List.getElem?_map] at hx
          rw [List.map_map, List.getElem?_map] at hy
          cases hq : ops[i]? with
          | none =>
            rw [hq] at hx
            cases hx
          | some o =>
            rw [hq] at hx hy
            have ex : o.v = x := Option.some.inj hx
            have ey : V.bl (operandV o.v) = y := Option.some.inj hy
            subst ex
            subst ey
            exact ev_good rfl (hops o (List.mem_of_getElem? hq))
        · unfold opsOk
          rw [Bool.not_and, List.length_map]
          congr 1
          rw [← decide_not]
          exact decide_eq_decide.mpr (by omega)
        · refine s_asg ev_c (fun H6 e6 => ⟨?_, (e4.trans e5).trans e6⟩)
          rw [show dueC z ops = "operands" by unfold dueC; rw [if_pos (show nameS z = true from h1), if_neg (by simpa using hb2)]]
          rfl
        · rw [show dueC z ops = "" by unfold dueC; rw [if_pos (show nameS z = true from h1), if_pos (by simpa using hb2)]]
          rfl
    subst hσ4
    have hlo4 := (e3.trans e4) _ _ h2
    refine q_asgL (el_cat0 rfl hlo4 (by omega)) (fun lp H5 hlp e5 h5 => ?_)
    refine q_asg (v := .ref lp) (ev_var rfl) (fun H6 e6 => ?_)
    refine q_cut (M := fun σ' H' => ∃ g : Addr, σ' = [some (.ref l), some (.str z), some (.ref lo), some (.str (dueC z ops)), some (.ref lp), some (.ref g), none, none, none, none] ∧ Ex H6 H' ∧ OpsAt K H' g ops) ?_ (fun σ7 H7 ⟨g, hσ7, e7, hg⟩ => ?_)
    · have x6 : Ex H H6 := ((x3.trans e4).trans e5).trans e6
      refine s_when (b := decide (V.int (v1 / 7 % 2) = V.int 0)) (et_test (ev_op (x := .int (v1 / 7 % 2)) (ev_op (x := .int (v1 / 7)) (ev_op (x := .int v1) (ev_row (K := K) rfl (x6 _ _ hl) a1) ev_c (rv_I ⟨by decide, by decide⟩)) ev_c (rv_I (by decide))) ev_c (rv_eq rfl))) (fun hb H7 e7 => ?_) (fun hb H7 e7 => ⟨lp, rfl, e7, .inl ((e6.trans e7) _ _ h5)⟩)
      refine ⟨_, rfl, lo, _, rfl, .inl ⟨sq_of (((e5.trans e6).trans e7) _ _ hlo4), fun g hg => ⟨g, rfl, e7.trans (Ex.new hg), .inr upd_same⟩⟩⟩
    subst hσ7
    obtain ⟨d1, d2⟩ := due_call z ops
    have y7 : Ex H H7 := (((x3.trans e4).trans e5).trans e6).trans e7
    have hlo7 : H7 lo = some (.lst (ops.map Opd.v)) := ((e5.trans e6).trans e7) _ _ hlo4
    have hlp7 : H7 lp = some (.lst (ops.map Opd.v)) := (e6.trans e7) _ _ h5
    refine ⟨rfl, _, rfl, _, rfl, z, g, ops, rfl, (by have := set_len hz; omega), hg, by omega, hok, fun hnone a H8 ha e8 h8 => ?_, fun f hf d H8 e8 hd h8 => ?_⟩
    · have e0 := d1 hnone
      rw [e0]
      obtain ⟨t, ps, ⟨dx, g1⟩, g2, u, rfl, g3⟩ := h8.out
      have hlp8 := e8 _ _ hlp7
      have hlo8 := e8 _ _ hlo7
      refine q_when (b := false) (et_is (et_or (a := false) (et_is (et_test (ev_op (ev_var rfl) ev_c (rv_ne rfl))) kNeE) (fun _ => et_test (ev_op (ev_var rfl) (ev_var rfl) (rv_neD (d := .list (ops.map opD)) (fun H9 e9 => .lst (sq_of (e9 _ _ hlp8)) (dp_ops ops)) (fun H9 e9 => .lst (sq_of (e9 _ _ hlo8)) (dp_ops ops)) (sh_lst hops))))) rfl) (fun hb => nomatch hb) (fun _ H9 e9 => ?_)
      have hlp9 := e9 _ _ hlp8
      refine q_app hlp9 (ev_var rfl) ev_c (by omega) (fun H10 e10 => ?_)
      have na : a ≠ lp := ne_of ((e9.trans e10) _ _ g1) (e10 _ _ hlp9) (by intro z; cases z)
      have nt : t ≠ lp := ne_of ((e9.trans e10) _ _ g2) (e10 _ _ hlp9) (by intro z; cases z)
      have nu : u ≠ lp := ne_of ((e9.trans e10) _ _ g3) (e10 _ _ hlp9) (by intro z; cases z)
      have nlo : lo ≠ lp := ne_of_none hlo4 hlp
      have i1 : (upd H10 lp (.lst (ops.map Opd.v ++ [.int 7]))) a = some (.ins C dx (pFlds "call" t 1 1)) := by rw [upd_ne na]; exact (e9.trans e10) _ _ g1
      have i2 : (upd H10 lp (.lst (ops.map Opd.v ++ [.int 7]))) t = some (.tup [.str z, .ref u]) := by rw [upd_ne nt]; exact (e9.trans e10) _ _ g2
      have i3 : (upd H10 lp (.lst (ops.map Opd.v ++ [.int 7]))) u = some (.tup (ops.map Opd.v)) := by rw [upd_ne nu]; exact (e9.trans e10) _ _ g3
      have i4 : (upd H10 lp (.lst (ops.map Opd.v ++ [.int 7]))) lo = some (.lst (ops.map Opd.v)) := by rw [upd_ne nlo]; exact (e9.trans e10) _ _ hlo8
      have xl : Ex H (upd H10 lp (.lst (ops.map Opd.v ++ [.int 7]))) := Ex.mut (((y7.trans e8).trans e9).trans e10) (fresh_back (x3.trans e4) hlp)
      refine s_ret (v := .bl true) (ev_is (ev_andV (a := true) (b := true) (ev_is (ev_op (ev_fld (ev_var rfl) i1 T.cl T.nK pf_kind) ev_c (rv_eq rfl)) (by rw [kCallI])) (fun _ => ?_)) rfl) (fun H11 e11 => q H11 (xl.trans e11))
      intro H11 e11 Q' q'
      refine ev_fld (K := K) (ev_var rfl) i1 T.cl T.nP pf_parts H11 e11 _ fun H12 e12 => ?_
      have e13 := e11.trans e12
      refine ⟨_, rfl, _, rfl, lo, _, rfl, .inl ⟨sq_of (e13 _ _ i4), fun t2 ht2 => ⟨(by show 2 ≤ sizeLine; decide), fun p hp => ?_⟩⟩⟩
      have np : t2 ≠ p := fun z => by rw [← z, upd_same] at hp; cases hp
      have e14 : Ex H12 (upd (upd H12 t2 (.tup (ops.map Opd.v))) p (.tup [.str z, .ref t2])) := (Ex.new ht2).trans (Ex.new hp)
      refine ⟨.tuple [.str z, .tuple (ops.map opD)], .tuple [.str z, .tuple (ops.map opD)], .tup (st_of (e14 _ _ (e13 _ _ i2))) (.cons (.str z) (.cons (.tup (st_of (e14 _ _ (e13 _ _ i3))) (dp_ops ops)) .nil)), .tup (st_of upd_same) (.cons (.str z) (.cons (.tup (st_of (by rw [upd_ne np]; exact upd_same)) (dp_ops ops)) .nil)), sh_call hz hops, sh_call hz hops, ?_⟩
      rw [SeqAt.eqv_refl _ (SeqAt.canLay_of_shaped (sh_call hz hops))]
      exact q' _ (e12.trans e14)
    · obtain ⟨f1, f2⟩ := d2 f hf
      refine ⟨true, R.te, fun _ a ha => ?_, fun hq => nomatch hq⟩
      exact suite_both rfl rfl rfl rfl h8 f1.symm (e8 _ _ hlp7) (e8 _ _ hlo7) hops (q H8 (y7.trans e8))
end
end Fs

set_option Elab.async false
set_option linter.all false
set_option maxRecDepth 100000
set_option maxHeartbeats 4000000
namespace Fs
open PySem L2 Evl FsE FsC FsR
section
variable {P : Program} {w : World} {K : PySem.W.Frag} {mg : Str → Option Value} {base : Heap} {C CB : Addr}
def spLaw (K : PySem.W.Frag) : Sp := fun vs H Q _ => ∃ (a : Addr) (ns : List Int), vs = [.ref a] ∧ SqL K H a (ns.map V.int) ∧ RetV (.bl true) H Q
/-- each p of D: a row -/
def RowsAt (H H' : Hp) (D : Addr) (i : Nat) (xs : List V) : Prop := xs.length = i ∧ ∀ (j : Nat) (y : V), xs[j]? = some y → ∃ (p : Addr) (row : List Int), y = .ref p ∧ p ≠ D ∧ H' p = some (.lst (row.map V.int)) ∧ row.length = 8 ∧ RowOk row
theorem scLawT : FnScope ["_law_script", "_law_rows", "_law_k"] ["_law_script"] (defScope (topS 43)) := ⟨rfl, rfl, rfl, by decide +kernel, rfl, by decide +kernel, by decide +kernel⟩
theorem ok_law {f : Addr} {fd : FuncData} {k : Nat} (hk : 2 ≤ k) (F : Fun K "law" "law" (topS 43) f fd) (L : LawT K mg) (GC : CalX P w K mg base CX0 1 "_law_cell_at" (spCellAt K)) (GR : CalX P w K mg base CX0 2 "_law_row" spRow)
    (G1 : CalX P w K mg base CX0 k "_law_new" (spTrueRow 8)) (G2 : CalX P w K mg base CX0 k "_law_when" (spTrueRow 8)) (G3 : CalX P w K mg base CX0 k "_law_call" (spTrueRow 8)) : FnOk P w K mg base CX0 (k + 1) f fd ["_law_script"] (spLaw K) := by
  refine F.ok scLawT (fun vs H Q E h => ?_) (fun cdv A outer s H vs Q E hr h => ?_)
  · obtain ⟨a, ns, rfl, _⟩ := h
    rfl
  · obtain ⟨a, ns, rfl, hS, q⟩ := h
    refine ⟨_, pss_cons (ps_setLc (i := 1) (own := [("_law_k", 2)]) (g := gName 2) (tt := tYes) (te := tCallS spRow (fun _ => E0) (tCons (tCallS (spCellAt K) (fun _ => E0) (tCons (tVar 0) (tCons (tVar 2) tNil))) (tCons (tC (.int 8)) tNil))) rfl scLawT.nd rfl rfl (sw_true rfl rfl rfl (by decide +kernel))
          (pi_range1 rfl L.range (pa_cons pe_int pa_nil))
          (blkOk_by (own := [("_law_k", 2)]) (N := ["_law_script", "_law_rows", "_law_k"]) (sc := defScope (topS 43)) (by decide +kernel))
          (fun _ _ _ _ _ => pg_name (i := 2) scLawT.nd rfl (Or.inl rfl)) (fun _ _ _ _ _ => pts_nil)
          (fun _ _ _ _ _ => pe_cx (E := fun _ => E0) GR hr hk (by rfl) at0 (pa_cons (pe_cx (E := fun _ => E0) GC hr (by omega) (by rfl) at0 (pa_cons (pv 0) (pa_cons (pv 2) pa_nil))) (pa_cons pe_int pa_nil))))
      (pss_one (ps_ret (pe_and (pe_cx (E := fun _ => E0) G1 hr (Nat.le_refl _) (by rfl) at0 (pa_cons (pe_ix ix_list (pv 1) pe_int (fun _ _ => rfl)) pa_nil)) (pe_and (pe_cx (E := fun _ => E0) G2 hr (Nat.le_refl _) (by rfl) at0 (pa_cons (pe_ix ix_list (pv 1) pe_int (fun _ _ => rfl)) pa_nil))
        (pe_one (pe_cx (E := fun _ => E0) G3 hr (Nat.le_refl _) (by rfl) at0 (pa_cons (pe_ix ix_list (pv 1) pe_int (fun _ _ => rfl)) pa_nil))))))), ?_⟩
    refine ⟨3, rfl, (by decide), (by decide), fun Dl hD => lc_range (lo := 0) (n := 3) (fun m H' => ∃ xs : List V, RowsAt H H' Dl m xs ∧ H' Dl = some (.lst xs) ∧ Ex H H') ⟨[], ⟨rfl, fun j y hy => by simp at hy⟩, upd_same, Ex.new hD⟩ (fun m H' hm ⟨xs, ⟨h1, h2⟩, h3, h4⟩ => ?_) (fun H' ⟨xs, ⟨h1, h2⟩, h3, h4⟩ => ?_)⟩
    · have e0 : (0 : Int) + (m : Int) = (m : Int) := Int.zero_add _
      rw [e0]
      refine ⟨rfl, ?_⟩
      refine ⟨_, rfl, _, rfl, a, ns, m, rfl, ex_l h4 hS, fun c H2 e2 => ?_⟩
      refine ⟨c, 8, rfl, by decide, fun row hrow hok p H3 hp e3 h3' => ?_⟩
      have h3'' : H3 Dl = some (.lst xs) := (e2.trans e3) _ _ h3
      have ndp : p ≠ Dl := fun z => by
        rw [z, e2 _ _ h3] at hp
        cases hp
      refine ⟨xs, h3'', sz_lt (by omega), xs ++ [.ref p], ⟨by rw [List.length_append, h1]; rfl, fun j y hy => ?_⟩, upd_same, Ex.mut ((h4.trans e2).trans e3) hD⟩
      by_cases hj : j < xs.length
      · rw [List.getElem?_append_left hj] at hy
        obtain ⟨p', row', g1, g2, g3, g4, g5⟩ := h2 j y hy
        exact ⟨p', row', g1, g2, by rw [upd_ne g2]; exact (e2.trans e3) _ _ g3, g4, g5⟩
      · have hy' : some y = some (V.ref p) := by
          rw [List.getElem?_append_right (by omega)] at hy
          cases hq : j - xs.length with
          | zero =>
            rw [hq] at hy
            exact hy.symm
          | succ i =>
            rw [hq] at hy
            simp at hy
        exact ⟨p, row, Option.some.inj hy', ndp, by rw [upd_ne ndp]; exact h3', hrow, hok⟩
    · obtain ⟨y0, y1, y2, rfl⟩ : ∃ y0 y1 y2, xs = [y0, y1, y2] := by
        match xs, h1 with
        | [y0, y1, y2], _ => exact ⟨y0, y1, y2, rfl⟩
      obtain ⟨p0, row0, rfl, n0, a0, l0, o0⟩ := h2 0 _ rfl
      obtain ⟨p1, row1, rfl, n1, a1, l1, o1⟩ := h2 1 _ rfl
      obtain ⟨p2, row2, rfl, n2, a2, l2, o2⟩ := h2 2 _ rfl
      have one : ∀ {H2 : Hp} {i : Nat} {pp : Addr} {rw' : List Int}, Ex H' H2 → [V.ref p0, .ref p1, .ref p2][i]? = some (.ref pp) → H' pp = some (.lst (rw'.map V.int)) → rw'.length = 8 → RowOk rw' →
          Ev (tCallS (spTrueRow 8) (fun _ => E0) (tCons (tOp (rIxL K) (tVar 1) (tC (.int (i : Int)))) tNil)) [some (.ref a), some (.ref Dl), none] H2 (.bl true) := fun e2 hi hp hl ho =>
        ev_cx (ea_cons (ev_op (ev_var rfl) ev_c (rv_ixL (sq_of (e2 _ _ h3)) (atI_nat hi))) ea_nil) (fun H5 e5 Q' q' E' => ⟨_, _, rfl, e5 _ _ (e2 _ _ hp), hl, ho, fun H6 e6 => q' H6 e6⟩)
      refine s_ret (v := .bl true) (ev_is (ev_andV (a := true) (one (i := 0) (Ex.refl _) rfl a0 l0 o0) (fun _ => ev_andV (a := true) (b := true) (one (i := 1) (Ex.refl _) rfl a1 l1 o1) (fun _ => one (i := 2) (Ex.refl _) rfl a2 l2 o2))) rfl) (fun H2 e2 => q H2 (h4.trans e2))
end
end Fs

set_option Elab.async false
set_option linter.all false
set_option maxRecDepth 100000
set_option maxHeartbeats 4000000
namespace FsB
open PySem PySem.W PySem.Calls PyProof.Rows PySem.HandSPX
/-- a made one -/
structure BtMade (h h' : Heap) (e C d : Addr) (v : Value) : Prop where
  keep : ∀ b o, h.get? b = some o → h'.get? b = some o
  big : h.objs.size ≤ e
  obj : ∃ t1 : Addr, h'.get? e = some { cls := .ref C, dict := some d, data := .fields #[.ref t1, .none, .none, .none, .bool false, .none] }
  dbig : h.objs.size ≤ d
  dne : d ≠ e
  ns : h'.Ns1 d (fun y => if y = "field" then some v else none)
section
variable {prog : Program} {w : World} {A : Around} {R : Result → Shared → Prop} {s : Shared} {K : Frag} {mg : Str → Option Value} {x0 : Str} {C fI : Addr}
theorem bt_made (T : ErrTxt prog K mg x0 C fI) {v : Value} (X : K.In s.heap) (G : s.heap.Ns mainGlobals mg) (Bl : ∃ mb, s.heap.Ns builtinsNs mb ∧ mb "super" = some (.type "super")) (hlim : s.heap.NoLimit) (hroom : A.depth + 1 < recursionLimit)
    (hq : ∀ h' tk' e d, BtMade s.heap h' e C d v → R (.ok (.ret (.ref e))) { s with heap := h', toks := tk' }) : codeAny (model prog w) A (.call (.ref C) ⟨[v], []⟩) R s := by
  obtain ⟨nm, q, N, bs, bm, sn, sub, ab, col, dd, k0, k1, k2, k3, k5, hC, hbm⟩ := T.cls
  obtain ⟨g0, gs, dr, t, os⟩ := s
  let g2 : Heap := (g0.push (kdv_tup [v])).push (excO C g0.objs.size)
  have up : ∀ b o, g0.get? b = some o → g2.get? b = some o := fun b o e => Heap.get?_push_of_some _ (Heap.get?_push_of_some _ e)
  have at1 : g2.get? (g0.objs.size + 1) = some (excO C g0.objs.size) := by
    show ((g0.push (kdv_tup [v])).push (excO C g0.objs.size)).get? (g0.objs.size + 1) = _
    heap_get
  have sz2 : g2.objs.size = g0.objs.size + 1 + 1 := by
    show ((g0.push (kdv_tup [v])).push (excO C g0.objs.size)).objs.size = _
    rw [Heap.size_push, Heap.size_push]
  have free1 : g0.get? (g0.objs.size + 1) = none := by
    cases e : g0.get? (g0.objs.size + 1) with
    | none => rfl
    | some o => exact absurd (Nat.lt_of_succ_lt (Heap.lt_size e)) (Nat.lt_irrefl _)
  refine call_own F.excBase_ValueError (fun Y => refsVE_contains Y bm hbm) (X _ _ hC) (looks_findIn X T.iC) (fun self => bind_fn X self T.tC) (len1 _) ?_
  refine bt_init (s := ⟨g2, gs, dr, t, os⟩) (hp := g0) T X G Bl (hlim.keeps up) up (by show g0.objs.size ≤ g2.objs.size; omega) at1 free1 hroom fun h' t' dx t1 ⟨k, ho, dbig, dne, hns⟩ => ?_
  exact ⟨rfl, hq h' t' (g0.objs.size + 1) dx ⟨k, Nat.le_succ _, ⟨t1, ho⟩, dbig, dne, hns⟩⟩
end
end FsB
namespace Fs
open PySem PySem.Spec PyProof.Rows L2 FsB
theorem relO_field {f : Str} {v : V} {u : Value} (r : RelV v u) (g : Str) : RelO (List.lookup g [(f, v)]) (if g = f then some u else none) := by
  by_cases h : g = f
  · rw [h, if_pos rfl, show List.lookup f [(f, v)] = some v by simp [List.lookup]]
    exact r
  · rw [if_neg h, show List.lookup g [(f, v)] = none by simp [List.lookup, show (g == f) = false by simpa using h]]
    trivial
theorem raises_bt {P : Program} {w : World} {K : PySem.W.Frag} {mg : Str → Option Value} {base : Heap} {x : Str} {C fI : Addr} {k : Nat} (hdb : (x == ("__debug__" : Str)) = false) (T : ErrTxt P K mg x C fI) : RaisesX P w K mg base x C "field" k := by
  intro X eP ew eK em eb hr a ta p pos ha hg he hpl pins s σ H Q I h
  subst eP ew eK em eb
  refine wpAny_Call_Name_kw (ld_glob I hg T.gC ?_ hdb)
  refine PySem.W.callWith_K (h₀ := X.base) I.ok.mod.kin T.kC (thn (ha.run pos pins s σ H _ I h) fun us s1 ⟨vs, H1, I1, r1, z, ev, hz, q1⟩ => ?_) he hpl
  subst ev
  refine ⟨I1.kIn, ?_⟩
  cases r1 with
  | cons rv rn =>
    cases rn
    obtain ⟨tk, rfl⟩ := rv
    show wpAny _ _ (call (.ref C) [.str z tk]) _ _ _
    have lim := I1.nolimit
    obtain ⟨mb, b1, b2⟩ := I1.ok.mod.blt
    have gl : s1.heap.Ns mainGlobals X.mg := I1.ok.mod.glob.keeps I1.bk
    have bl : ∃ mb, s1.heap.Ns builtinsNs mb ∧ mb "super" = some (.type "super") := ⟨mb, b1.keeps I1.bk, (b2 _ (by decide)).trans Boot.«super»⟩
    obtain ⟨g0, gs, dr, t, os⟩ := s1
    refine wpAny_call (bt_made T I1.kIn gl bl lim (by have := hr.dp; omega) fun h' t' e d M => ?_)
    show MkP X pins σ Q (.ref e) ⟨h', gs, dr, t', os⟩
    obtain ⟨t1, ho⟩ := M.obj
    obtain ⟨G', ge1, ge2⟩ := restrict h' fun b => decide (b ≠ e)
    have same : ∀ b, b ≠ e → G'.get? b = h'.get? b := fun b hb => ge1 b (decide_eq_true hb)
    have gone : G'.get? e = none := ge2 e (by simp)
    have old : ∀ b o, g0.get? b = some o → G'.get? b = some o := fun b o q => (same b (Nat.ne_of_lt (Nat.lt_of_lt_of_le (Heap.lt_size q) M.big))).trans (M.keep b o q)
    have ob : ObjOk X.prog X.w (upd H1 d (.xd [(("field" : Str), V.str z)])) G' d (.xd [(("field" : Str), V.str z)]) := ⟨_, M.ns.at (fun o q => (same d M.dne).trans q), fun f => relO_field (v := V.str z) ⟨tk, rfl⟩ f⟩
    have J : Inv X pins σ (upd H1 d (.xd [(("field" : Str), V.str z)])) ⟨G', gs, dr, t', os⟩ := I1.laid (t' := t') old M.dbig ob
    refine ⟨e, _, _, ⟨G', gs, dr, t', os⟩, _, .ref C, some d, rfl, J, fun b o q => ?_, gone, ho, ⟨rfl, rfl⟩, rfl, rfl, ?_, rfl, I1.bare, raises_own T.exC T.tyC, q1 d (I1.hok.fresh M.dbig)⟩
    · by_cases hb : b = e
      · have q' : G'.get? b = some o := q
        rw [hb, gone] at q'
        cases q'
      · exact (same b hb).symm.trans q
    · rw [upd_ne (Ne.symm M.dne)]
      exact I1.hok.fresh M.big
end Fs

set_option Elab.async false
set_option linter.all false
set_option maxRecDepth 100000
set_option maxHeartbeats 8000000
namespace Fs
open PySem PySem.Spec PyProof.Rows L2 Evl FsE FsC FsR FsB
theorem exm_own {K : PySem.W.Frag} {S : Addr} (h1 : PySem.W.subIn K (.ref S) (.type "BaseException") = some true) (h2 : PySem.W.isClsIn K S = true) (h3 : PySem.W.typeIn K (.ref S) = some (.type "type")) (h4 : PySem.W.subIn K (.ref S) (.ref S) = some true) : PySem.W.exmOne K (.ref S) (.ref S) = some true := by
  unfold PySem.W.exmOne PySem.W.kitCls
  have h2' : (PySem.W.clsIn K S).isSome = true := h2
  simp only [h1, h2', h3, h4, beq_self_eq_true, Bool.and_self, if_true]
theorem kit_no {K : PySem.W.Frag} {S : Addr} {T : String} (h2 : PySem.W.isClsIn K S = true) (h3 : PySem.W.typeIn K (.ref S) = some (.type "type")) (h4 : PySem.W.subIn K (.type T) (.ref S) = some false) : PySem.W.kitOne K (.type T) (.ref S) = some false := by
  unfold PySem.W.kitOne PySem.W.kitCls
  have h2' : (PySem.W.clsIn K S).isSome = true := h2
  have h0 : (Value.type T == Value.ref S) = false := rfl
  simp only [h0, h2', h3, h4, beq_self_eq_true, Bool.and_self, if_true]
  rfl
theorem kit_own {K : PySem.W.Frag} {S : Addr} (h2 : PySem.W.isClsIn K S = true) (h3 : PySem.W.typeIn K (.ref S) = some (.type "type")) : PySem.W.kitOne K (.ref S) (.ref S) = some true := by
  unfold PySem.W.kitOne PySem.W.kitCls
  have h2' : (PySem.W.clsIn K S).isSome = true := h2
  simp only [h2', h3, beq_self_eq_true, if_true]
theorem all_mk {P : Program} {w : World} {K : PySem.W.Frag} {h : Heap} {mg : Str → Option Value} {fa : Addr} (X : K.In h) (G : h.Ns mainGlobals mg) (hfa : mg "law" = some (.ref fa))
    {fisname : Addr} {odisname anisname : Option Addr} {slisname : Array (Option Value)} {ocisname kVisname dcisname pmisname cdisname ctisname : Value}
    {fisint : Addr} {odisint anisint : Option Addr} {slisint : Array (Option Value)} {ocisint kVisint dcisint pmisint cdisint ctisint : Value}
    {fisshort : Addr} {odisshort anisshort : Option Addr} {slisshort : Array (Option Value)} {ocisshort kVisshort dcisshort pmisshort cdisshort ctisshort : Value}
    {fisop : Addr} {odisop anisop : Option Addr} {slisop : Array (Option Value)} {ocisop kVisop dcisop pmisop cdisop ctisop : Value}
    {fisseats : Addr} {odisseats anisseats : Option Addr} {slisseats : Array (Option Value)} {ocisseats kVisseats dcisseats pmisseats cdisseats ctisseats : Value}
    {fdemand : Addr} {oddemand andemand : Option Addr} {sldemand : Array (Option Value)} {ocdemand kVdemand dcdemand pmdemand cddemand ctdemand : Value}
    {finner : Addr} {odinner aninner : Option Addr} {slinner : Array (Option Value)} {ocinner kVinner dcinner pminner cdinner ctinner : Value}
    {fsize : Addr} {odsize ansize : Option Addr} {slsize : Array (Option Value)} {ocsize kVsize dcsize pmsize cdsize ctsize : Value}
    {fdepth : Addr} {oddepth andepth : Option Addr} {sldepth : Array (Option Value)} {ocdepth kVdepth dcdepth pmdepth cddepth ctdepth : Value}
    {fcellat : Addr} {odcellat ancellat : Option Addr} {slcellat : Array (Option Value)} {occellat kVcellat dccellat pmcellat cdcellat ctcellat : Value}
    {fmixed : Addr} {odmixed anmixed : Option Addr} {slmixed : Array (Option Value)} {ocmixed kVmixed dcmixed pmmixed cdmixed ctmixed : Value}
    {frow : Addr} {odrow anrow : Option Addr} {slrow : Array (Option Value)} {ocrow kVrow dcrow pmrow cdrow ctrow : Value}
    {fsname : Addr} {odsname ansname : Option Addr} {slsname : Array (Option Value)} {ocsname kVsname dcsname pmsname cdsname ctsname : Value}
    {fsop : Addr} {odsop ansop : Option Addr} {slsop : Array (Option Value)} {ocsop kVsop dcsop pmsop cdsop ctsop : Value}
    {fgood : Addr} {odgood angood : Option Addr} {slgood : Array (Option Value)} {ocgood kVgood dcgood pmgood cdgood ctgood : Value}
    {ftower : Addr} {odtower antower : Option Addr} {sltower : Array (Option Value)} {octower kVtower dctower pmtower cdtower cttower : Value}
    {fistower : Addr} {odistower anistower : Option Addr} {slistower : Array (Option Value)} {ocistower kVistower dcistower pmistower cdistower ctistower : Value}
    {flnew : Addr} {odlnew anlnew : Option Addr} {sllnew : Array (Option Value)} {oclnew kVlnew dclnew pmlnew cdlnew ctlnew : Value}
    {flwhen : Addr} {odlwhen anlwhen : Option Addr} {sllwhen : Array (Option Value)} {oclwhen kVlwhen dclwhen pmlwhen cdlwhen ctlwhen : Value}
    {flcall : Addr} {odlcall anlcall : Option Addr} {sllcall : Array (Option Value)} {oclcall kVlcall dclcall pmlcall cdlcall ctlcall : Value}
    {flaw : Addr} {odlaw anlaw : Option Addr} {sllaw : Array (Option Value)} {oclaw kVlaw dclaw pmlaw cdlaw ctlaw : Value}
    {C CB : Addr}
    {finit : Addr} {odinit aninit : Option Addr} {slinit : Array (Option Value)} {ocinit kVinit dcinit pminit cdinit ctinit : Value}
    {pstop : Addr} {reststop : List Value}
    {fststop : Addr} {odststop anststop : Option Addr} {slststop : Array (Option Value)} {ocststop kVststop dcststop pmststop cdststop ctststop : Value}
    {pnew : Addr} {restnew : List Value}
    {fstnew : Addr} {odstnew anstnew : Option Addr} {slstnew : Array (Option Value)} {ocstnew kVstnew dcstnew pmstnew cdstnew ctstnew : Value}
    {pwhen : Addr} {restwhen : List Value}
    {fstwhen : Addr} {odstwhen anstwhen : Option Addr} {slstwhen : Array (Option Value)} {ocstwhen kVstwhen dcstwhen pmstwhen cdstwhen ctstwhen : Value}
    {pcall : Addr} {restcall : List Value}
    {fstcall : Addr} {odstcall anstcall : Option Addr} {slstcall : Array (Option Value)} {ocstcall kVstcall dcstcall pmstcall cdstcall ctstcall : Value}
    {nmB qB : Str} {NB cS fB cda cc : Addr} {bsB : List Value} {snB : List Str} {subB : List Value} {abB : Bool} {colB : Option Bool} {ddB : Option Addr} {m0 m1 m2 m3 m5 : Option Value} {ocB kVB dcB pmB ctB ccl clB : Value} {odB anB cdd cld : Option Addr} {slB ccs csl : Array (Option Value)} {vsB : Array Value} {fileB : Str} {tfB : Tok} {zM : Str} {b1 b2 q0 r0 r1 r2 r3 r4 r5 r6 r7 r8 : Pos}
    {zL : Str} {tL : Tok}
    {zD : Str} {tD : Tok}
    {iN : Int} {tN : Tok}
    {iT : Int} {tT : Tok}
    {iM : Int} {tM : Tok}
    {iDe : Int} {tDe : Tok}
    {iSi : Int} {tSi : Tok}
    {iOp : Int} {tOp : Tok}
    {aR : Addr} {odR : Option Addr} {slR : Array (Option Value)} {itsR : Array Value} {nR : Nat}
    (aisname : PySem.W.nsIn K mainGlobals "is_name" = some (some (.ref fisname)))
    (lisname : K.lookup fisname = some ⟨ocisname, odisname, .func (PySem.W.fnOf "is_name" "is_name" (defArgs (topS 7)) (defBody (topS 7)) (defScope (topS 7)) .none kVisname dcisname pmisname anisname cdisname ctisname), slisname⟩)
    (cisname : PySem.W.codeIn K cdisname "is_name" = true)
    (kisname : PySem.W.keepIn K (.ref fisname) = true)
    (aisint : PySem.W.nsIn K mainGlobals "is_int" = some (some (.ref fisint)))
    (lisint : K.lookup fisint = some ⟨ocisint, odisint, .func (PySem.W.fnOf "is_int" "is_int" (defArgs (topS 9)) (defBody (topS 9)) (defScope (topS 9)) .none kVisint dcisint pmisint anisint cdisint ctisint), slisint⟩)
    (cisint : PySem.W.codeIn K cdisint "is_int" = true)
    (kisint : PySem.W.keepIn K (.ref fisint) = true)
    (aisshort : PySem.W.nsIn K mainGlobals "is_short" = some (some (.ref fisshort)))
    (lisshort : K.lookup fisshort = some ⟨ocisshort, odisshort, .func (PySem.W.fnOf "is_short" "is_short" (defArgs (topS 10)) (defBody (topS 10)) (defScope (topS 10)) .none kVisshort dcisshort pmisshort anisshort cdisshort ctisshort), slisshort⟩)
    (cisshort : PySem.W.codeIn K cdisshort "is_short" = true)
    (kisshort : PySem.W.keepIn K (.ref fisshort) = true)
    (aisop : PySem.W.nsIn K mainGlobals "is_operand" = some (some (.ref fisop)))
    (lisop : K.lookup fisop = some ⟨ocisop, odisop, .func (PySem.W.fnOf "is_operand" "is_operand" (defArgs (topS 11)) (defBody (topS 11)) (defScope (topS 11)) .none kVisop dcisop pmisop anisop cdisop ctisop), slisop⟩)
    (cisop : PySem.W.codeIn K cdisop "is_operand" = true)
    (kisop : PySem.W.keepIn K (.ref fisop) = true)
    (aisseats : PySem.W.nsIn K mainGlobals "is_seats" = some (some (.ref fisseats)))
    (lisseats : K.lookup fisseats = some ⟨ocisseats, odisseats, .func (PySem.W.fnOf "is_seats" "is_seats" (defArgs (topS 12)) (defBody (topS 12)) (defScope (topS 12)) .none kVisseats dcisseats pmisseats anisseats cdisseats ctisseats), slisseats⟩)
    (cisseats : PySem.W.codeIn K cdisseats "is_seats" = true)
    (kisseats : PySem.W.keepIn K (.ref fisseats) = true)
    (ademand : PySem.W.nsIn K mainGlobals "demand" = some (some (.ref fdemand)))
    (ldemand : K.lookup fdemand = some ⟨ocdemand, oddemand, .func (PySem.W.fnOf "demand" "demand" (defArgs (topS 22)) (defBody (topS 22)) (defScope (topS 22)) .none kVdemand dcdemand pmdemand andemand cddemand ctdemand), sldemand⟩)
    (cdemand : PySem.W.codeIn K cddemand "demand" = true)
    (kdemand : PySem.W.keepIn K (.ref fdemand) = true)
    (ainner : PySem.W.nsIn K mainGlobals "inner_processes" = some (some (.ref finner)))
    (linner : K.lookup finner = some ⟨ocinner, odinner, .func (PySem.W.fnOf "inner_processes" "inner_processes" (defArgs (topS 23)) (defBody (topS 23)) (defScope (topS 23)) .none kVinner dcinner pminner aninner cdinner ctinner), slinner⟩)
    (cinner : PySem.W.codeIn K cdinner "inner_processes" = true)
    (kinner : PySem.W.keepIn K (.ref finner) = true)
    (asize : PySem.W.nsIn K mainGlobals "size_of" = some (some (.ref fsize)))
    (lsize : K.lookup fsize = some ⟨ocsize, odsize, .func (PySem.W.fnOf "size_of" "size_of" (defArgs (topS 24)) (defBody (topS 24)) (defScope (topS 24)) .none kVsize dcsize pmsize ansize cdsize ctsize), slsize⟩)
    (csize : PySem.W.codeIn K cdsize "size_of" = true)
    (ksize : PySem.W.keepIn K (.ref fsize) = true)
    (adepth : PySem.W.nsIn K mainGlobals "depth_of" = some (some (.ref fdepth)))
    (ldepth : K.lookup fdepth = some ⟨ocdepth, oddepth, .func (PySem.W.fnOf "depth_of" "depth_of" (defArgs (topS 25)) (defBody (topS 25)) (defScope (topS 25)) .none kVdepth dcdepth pmdepth andepth cddepth ctdepth), sldepth⟩)
    (cdepth : PySem.W.codeIn K cddepth "depth_of" = true)
    (kdepth : PySem.W.keepIn K (.ref fdepth) = true)
    (acellat : PySem.W.nsIn K mainGlobals "_law_cell_at" = some (some (.ref fcellat)))
    (lcellat : K.lookup fcellat = some ⟨occellat, odcellat, .func (PySem.W.fnOf "_law_cell_at" "_law_cell_at" (defArgs (topS 32)) (defBody (topS 32)) (defScope (topS 32)) .none kVcellat dccellat pmcellat ancellat cdcellat ctcellat), slcellat⟩)
    (ccellat : PySem.W.codeIn K cdcellat "_law_cell_at" = true)
    (kcellat : PySem.W.keepIn K (.ref fcellat) = true)
    (amixed : PySem.W.nsIn K mainGlobals "_law_mixed" = some (some (.ref fmixed)))
    (lmixed : K.lookup fmixed = some ⟨ocmixed, odmixed, .func (PySem.W.fnOf "_law_mixed" "_law_mixed" (defArgs (topS 33)) (defBody (topS 33)) (defScope (topS 33)) .none kVmixed dcmixed pmmixed anmixed cdmixed ctmixed), slmixed⟩)
    (cmixed : PySem.W.codeIn K cdmixed "_law_mixed" = true)
    (kmixed : PySem.W.keepIn K (.ref fmixed) = true)
    (arow : PySem.W.nsIn K mainGlobals "_law_row" = some (some (.ref frow)))
    (lrow : K.lookup frow = some ⟨ocrow, odrow, .func (PySem.W.fnOf "_law_row" "_law_row" (defArgs (topS 34)) (defBody (topS 34)) (defScope (topS 34)) .none kVrow dcrow pmrow anrow cdrow ctrow), slrow⟩)
    (crow : PySem.W.codeIn K cdrow "_law_row" = true)
    (krow : PySem.W.keepIn K (.ref frow) = true)
    (asname : PySem.W.nsIn K mainGlobals "_law_some_name" = some (some (.ref fsname)))
    (lsname : K.lookup fsname = some ⟨ocsname, odsname, .func (PySem.W.fnOf "_law_some_name" "_law_some_name" (defArgs (topS 35)) (defBody (topS 35)) (defScope (topS 35)) .none kVsname dcsname pmsname ansname cdsname ctsname), slsname⟩)
    (csname : PySem.W.codeIn K cdsname "_law_some_name" = true)
    (ksname : PySem.W.keepIn K (.ref fsname) = true)
    (asop : PySem.W.nsIn K mainGlobals "_law_some_operand" = some (some (.ref fsop)))
    (lsop : K.lookup fsop = some ⟨ocsop, odsop, .func (PySem.W.fnOf "_law_some_operand" "_law_some_operand" (defArgs (topS 36)) (defBody (topS 36)) (defScope (topS 36)) .none kVsop dcsop pmsop ansop cdsop ctsop), slsop⟩)
    (csop : PySem.W.codeIn K cdsop "_law_some_operand" = true)
    (ksop : PySem.W.keepIn K (.ref fsop) = true)
    (agood : PySem.W.nsIn K mainGlobals "_law_good" = some (some (.ref fgood)))
    (lgood : K.lookup fgood = some ⟨ocgood, odgood, .func (PySem.W.fnOf "_law_good" "_law_good" (defArgs (topS 37)) (defBody (topS 37)) (defScope (topS 37)) .none kVgood dcgood pmgood angood cdgood ctgood), slgood⟩)
    (cgood : PySem.W.codeIn K cdgood "_law_good" = true)
    (kgood : PySem.W.keepIn K (.ref fgood) = true)
    (atower : PySem.W.nsIn K mainGlobals "_law_tower" = some (some (.ref ftower)))
    (ltower : K.lookup ftower = some ⟨octower, odtower, .func (PySem.W.fnOf "_law_tower" "_law_tower" (defArgs (topS 38)) (defBody (topS 38)) (defScope (topS 38)) .none kVtower dctower pmtower antower cdtower cttower), sltower⟩)
    (ctower : PySem.W.codeIn K cdtower "_law_tower" = true)
    (ktower : PySem.W.keepIn K (.ref ftower) = true)
    (aistower : PySem.W.nsIn K mainGlobals "_law_is_tower" = some (some (.ref fistower)))
    (listower : K.lookup fistower = some ⟨ocistower, odistower, .func (PySem.W.fnOf "_law_is_tower" "_law_is_tower" (defArgs (topS 39)) (defBody (topS 39)) (defScope (topS 39)) .none kVistower dcistower pmistower anistower cdistower ctistower), slistower⟩)
    (cistower : PySem.W.codeIn K cdistower "_law_is_tower" = true)
    (kistower : PySem.W.keepIn K (.ref fistower) = true)
    (alnew : PySem.W.nsIn K mainGlobals "_law_new" = some (some (.ref flnew)))
    (llnew : K.lookup flnew = some ⟨oclnew, odlnew, .func (PySem.W.fnOf "_law_new" "_law_new" (defArgs (topS 40)) (defBody (topS 40)) (defScope (topS 40)) .none kVlnew dclnew pmlnew anlnew cdlnew ctlnew), sllnew⟩)
    (clnew : PySem.W.codeIn K cdlnew "_law_new" = true)
    (klnew : PySem.W.keepIn K (.ref flnew) = true)
    (alwhen : PySem.W.nsIn K mainGlobals "_law_when" = some (some (.ref flwhen)))
    (llwhen : K.lookup flwhen = some ⟨oclwhen, odlwhen, .func (PySem.W.fnOf "_law_when" "_law_when" (defArgs (topS 41)) (defBody (topS 41)) (defScope (topS 41)) .none kVlwhen dclwhen pmlwhen anlwhen cdlwhen ctlwhen), sllwhen⟩)
    (clwhen : PySem.W.codeIn K cdlwhen "_law_when" = true)
    (klwhen : PySem.W.keepIn K (.ref flwhen) = true)
    (alcall : PySem.W.nsIn K mainGlobals "_law_call" = some (some (.ref flcall)))
    (llcall : K.lookup flcall = some ⟨oclcall, odlcall, .func (PySem.W.fnOf "_law_call" "_law_call" (defArgs (topS 42)) (defBody (topS 42)) (defScope (topS 42)) .none kVlcall dclcall pmlcall anlcall cdlcall ctlcall), sllcall⟩)
    (clcall : PySem.W.codeIn K cdlcall "_law_call" = true)
    (klcall : PySem.W.keepIn K (.ref flcall) = true)
    (alaw : PySem.W.nsIn K mainGlobals "law" = some (some (.ref flaw)))
    (llaw : K.lookup flaw = some ⟨oclaw, odlaw, .func (PySem.W.fnOf "law" "law" (defArgs (topS 43)) (defBody (topS 43)) (defScope (topS 43)) .none kVlaw dclaw pmlaw anlaw cdlaw ctlaw), sllaw⟩)
    (claw : PySem.W.codeIn K cdlaw "law" = true)
    (klaw : PySem.W.keepIn K (.ref flaw) = true)
    (aC : PySem.W.nsIn K mainGlobals "Process" = some (some (.ref C)))
    (pg : PySem.W.plainGet K C Str.empty = true)
    (hd : PySem.W.hasDictIn K C = true)
    (po : PySem.W.plainOver K C = true)
    (sa : PySem.W.findIn K (.ref C) "__setattr__" = some (some (.builtin "object.__setattr__")))
    (n_kind : PySem.W.findIn K (.ref C) "kind" = some none)
    (n_parts : PySem.W.findIn K (.ref C) "parts" = some none)
    (n_depth : PySem.W.findIn K (.ref C) "depth" = some none)
    (n_size : PySem.W.findIn K (.ref C) "size" = some none)
    (mk : PySem.W.makesIn K C = true)
    (kc : PySem.W.keepIn K (.ref C) = true)
    (aInit : PySem.W.findIn K (.ref C) "__init__" = some (some (.ref finit)))
    (iInit : PySem.W.isFn K (.ref finit) = true)
    (linit : K.lookup finit = some ⟨ocinit, odinit, .func (PySem.W.fnOf "__init__" "Process.__init__" (defArgs (inClass (topS 26) 0)) (defBody (inClass (topS 26) 0)) (defScope (inClass (topS 26) 0)) .none kVinit dcinit pminit aninit cdinit ctinit), slinit⟩)
    (cinit : PySem.W.codeIn K cdinit "Process.__init__" = true)
    (kinit : PySem.W.keepIn K (.ref finit) = true)
    (rdC : PySem.W.readsIn K C (.type "type") = true)
    (gaC : PySem.W.specialIn K (.ref C) "__getattribute__" = some (some (.builtin "type.__getattribute__")))
    (sstop : PySem.W.findCls K (.ref C) (.type "type") "stop" = some (.get (.builtin "staticmethod.__get__") (.ref pstop) .none (.ref C)))
    (rstop : PySem.W.recIn K pstop "staticmethod" = some (.ref fststop :: reststop))
    (lststop : K.lookup fststop = some ⟨ocststop, odststop, .func (PySem.W.fnOf "stop" "Process.stop" (defArgs (inClass (topS 26) 1)) (defBody (inClass (topS 26) 1)) (defScope (inClass (topS 26) 1)) .none kVststop dcststop pmststop anststop cdststop ctststop), slststop⟩)
    (cststop : PySem.W.codeIn K cdststop "Process.stop" = true)
    (kststop : PySem.W.keepIn K (.ref fststop) = true)
    (snew : PySem.W.findCls K (.ref C) (.type "type") "new" = some (.get (.builtin "staticmethod.__get__") (.ref pnew) .none (.ref C)))
    (rnew : PySem.W.recIn K pnew "staticmethod" = some (.ref fstnew :: restnew))
    (lstnew : K.lookup fstnew = some ⟨ocstnew, odstnew, .func (PySem.W.fnOf "new" "Process.new" (defArgs (inClass (topS 26) 3)) (defBody (inClass (topS 26) 3)) (defScope (inClass (topS 26) 3)) .none kVstnew dcstnew pmstnew anstnew cdstnew ctstnew), slstnew⟩)
    (cstnew : PySem.W.codeIn K cdstnew "Process.new" = true)
    (kstnew : PySem.W.keepIn K (.ref fstnew) = true)
    (swhen : PySem.W.findCls K (.ref C) (.type "type") "when" = some (.get (.builtin "staticmethod.__get__") (.ref pwhen) .none (.ref C)))
    (rwhen : PySem.W.recIn K pwhen "staticmethod" = some (.ref fstwhen :: restwhen))
    (lstwhen : K.lookup fstwhen = some ⟨ocstwhen, odstwhen, .func (PySem.W.fnOf "when" "Process.when" (defArgs (inClass (topS 26) 4)) (defBody (inClass (topS 26) 4)) (defScope (inClass (topS 26) 4)) .none kVstwhen dcstwhen pmstwhen anstwhen cdstwhen ctstwhen), slstwhen⟩)
    (cstwhen : PySem.W.codeIn K cdstwhen "Process.when" = true)
    (kstwhen : PySem.W.keepIn K (.ref fstwhen) = true)
    (scall : PySem.W.findCls K (.ref C) (.type "type") "call" = some (.get (.builtin "staticmethod.__get__") (.ref pcall) .none (.ref C)))
    (rcall : PySem.W.recIn K pcall "staticmethod" = some (.ref fstcall :: restcall))
    (lstcall : K.lookup fstcall = some ⟨ocstcall, odstcall, .func (PySem.W.fnOf "call" "Process.call" (defArgs (inClass (topS 26) 5)) (defBody (inClass (topS 26) 5)) (defScope (inClass (topS 26) 5)) .none kVstcall dcstcall pmstcall anstcall cdstcall ctstcall), slstcall⟩)
    (cstcall : PySem.W.codeIn K cdstcall "Process.call" = true)
    (kstcall : PySem.W.keepIn K (.ref fstcall) = true)
    (icC : PySem.W.isClsIn K C = true)
    (tyC : PySem.W.typeIn K (.ref C) = some (.type "type"))
    (no_str : PySem.W.subIn K (.type "str") (.ref C) = some false)
    (no_int : PySem.W.subIn K (.type "int") (.ref C) = some false)
    (no_tuple : PySem.W.subIn K (.type "tuple") (.ref C) = some false)
    (haC : PySem.W.findIn K (.ref C) "__class__" = some (some (.builtin "object.__class__")))
    (hnC : PySem.W.specialIn K (.builtin "object.__class__") "__get__" = some (some (.builtin "getset_descriptor.__get__")))
    (htC : PySem.W.takesIn K (.builtin "object.__class__") = some true)
    (hmC : PySem.W.mroIn K C (.type "object") = some true)
    (aB : PySem.W.nsIn K mainGlobals "BadTerm" = some (some (.ref CB)))
    (xB : K.lookup CB = some (excClassObj nmB qB CB NB bsB [.ref cS, .type "ValueError", .type "Exception", .type "BaseException", .type "object"] true snB subB abB colB ddB m0 m1 m2 m3 m5 "ValueError.__new__"))
    (eiB : PySem.W.excInitIn K CB [.type "ValueError", .type "Exception", .type "BaseException", .type "object"] "ValueError.__new__" = true)
    (saB : PySem.W.findIn K (.ref CB) "__setattr__" = some (some (.builtin "object.__setattr__")))
    (noB : PySem.W.findIn K (.ref CB) "field" = some none)
    (iB : PySem.W.findIn K (.ref CB) "__init__" = some (some (.ref fB)))
    (tB : PySem.W.typeIn K (.ref fB) = some (.type "function"))
    (kB : PySem.W.keepIn K (.ref CB) = true)
    (exB : PySem.W.subIn K (.ref CB) (.type "BaseException") = some true)
    (veB : PySem.W.subIn K (.ref CB) (.type "ValueError") = some true)
    (tyB : PySem.W.typeIn K (.ref CB) = some (.type "type"))
    (mroB : PySem.W.mroIn K CB (.ref CB) = some true)
    (spB : PySem.W.ks_superIn K CB CB "__init__" = some (some (.builtin "ValueError.__init__")))
    (opq : PySem.W.nsIn K cStatics "thirdparty.any" = some none)
    (lB : K.lookup fB = some ⟨ocB, odB, .func (PySem.W.ksFn "__init__" "BadTerm.__init__" (FsB.eA b1 b2) (FsB.eB (FsB.eM zM q0) r0 r1 r2 r3 r4 r5 r6 r7 r8) FsB.eS .none kVB dcB pmB anB (.ref cda) ctB cc), slB⟩)
    (cB : PySem.W.codeIn K (.ref cda) "BadTerm.__init__" = true)
    (oB : K.lookup cda = some ⟨ccl, cdd, .fields vsB, ccs⟩)
    (vB : vsB[2]? = some (.str fileB tfB))
    (fB1 : ((P.main.file : Str) == fileB) = true)
    (ceB : K.lookup cc = some ⟨clB, cld, .cell (some (.ref CB)), csl⟩)
    (lnB : (r2.endLine == r3.line) = true)
    (zMB : zM.length ≤ 1000)
    (topB : (P.main.scope.names.lookup ("super" : Str)).isSome = false)
    (gaB : PySem.W.findIn K (.ref CB) "__getattribute__" = some (some (.builtin "BaseException.__getattribute__")))
    (ggB : PySem.W.findIn K (.ref CB) "__getattr__" = some none)
    (hdB : PySem.W.hasDictIn K CB = true)
    (icB : PySem.W.isClsIn K CB = true)
    (sbB : PySem.W.subIn K (.ref CB) (.ref CB) = some true)
    (gL : PySem.W.nsIn K mainGlobals "LETTERS" = some (some (.str zL tL)))
    (hL : zL = lettersS)
    (gD : PySem.W.nsIn K mainGlobals "DIGITS" = some (some (.str zD tD)))
    (hD : zD = digitsS)
    (gN : PySem.W.nsIn K mainGlobals "NAME_LENGTH" = some (some (.int iN tN)))
    (hN : iN = 8)
    (gT : PySem.W.nsIn K mainGlobals "TOO_LONG" = some (some (.int iT tT)))
    (hT : iT = 10 ^ 30)
    (gM : PySem.W.nsIn K mainGlobals "MOST_SEATS" = some (some (.int iM tM)))
    (hM : iM = 4)
    (gDe : PySem.W.nsIn K mainGlobals "MOST_DEPTH" = some (some (.int iDe tDe)))
    (hDe : iDe = 20)
    (gSi : PySem.W.nsIn K mainGlobals "MOST_SIZE" = some (some (.int iSi tSi)))
    (hSi : iSi = 400)
    (gOp : PySem.W.nsIn K mainGlobals "MOST_OPERANDS" = some (some (.int iOp tOp)))
    (hOp : iOp = 4)
    (gR : PySem.W.nsIn K mainGlobals "RESERVED" = some (some (.ref aR)))
    (lR : K.lookup aR = some ⟨.type "tuple", odR, .seq itsR nR, slR⟩)
    (sR : itsR.size ≤ 1000)
    (hR : Vals reservedV itsR.toList)
    (z_isinstance : PySem.W.nsIn K mainGlobals "isinstance" = some (none))
    (z_str : PySem.W.nsIn K mainGlobals "str" = some (none))
    (z_int : PySem.W.nsIn K mainGlobals "int" = some (none))
    (z_bool : PySem.W.nsIn K mainGlobals "bool" = some (none))
    (z_len : PySem.W.nsIn K mainGlobals "len" = some (none))
    (z_all : PySem.W.nsIn K mainGlobals "all" = some (none))
    (z_sum : PySem.W.nsIn K mainGlobals "sum" = some (none))
    (z_max : PySem.W.nsIn K mainGlobals "max" = some (none))
    (z_tuple : PySem.W.nsIn K mainGlobals "tuple" = some (none))
    (z_abs : PySem.W.nsIn K mainGlobals "abs" = some (none))
    (z_range : PySem.W.nsIn K mainGlobals "range" = some (none))
    (z_super : PySem.W.nsIn K mainGlobals "super" = some (none)) :
    ∃ fd : FuncData, (∀ (s : Shared) (v : Value), BindsTo s fd ⟨[v], []⟩ [("_law_script", v)]) ∧ ∀ base : Heap, K.In base → base.Ns mainGlobals mg → FnOk P w K mg base CX0 8 fa fd ["_law_script"] (spLaw K) := by
  have e := hfa.symm.trans (PySem.W.mg_of X G alaw)
  cases e
  subst hL hD hN hT hM hDe hSi hOp
  have B : BasT K mg := { letters := ⟨_, PySem.W.mg_of X G gL, _, rfl⟩, digits := ⟨_, PySem.W.mg_of X G gD, _, rfl⟩, nlen := ⟨_, PySem.W.mg_of X G gN, _, rfl⟩, reserved := ⟨aR, PySem.W.mg_of X G gR, fun H => .inr ⟨_, _, _, lR, rfl, rfl, by rw [sizeLine_eq]; omega, hR⟩⟩, toolong := ⟨_, PySem.W.mg_of X G gT, _, rfl⟩, seats := ⟨_, PySem.W.mg_of X G gM, _, rfl⟩, isinst := PySem.W.mg_none_of X G z_isinstance, str := PySem.W.mg_none_of X G z_str, int := PySem.W.mg_none_of X G z_int, bool := PySem.W.mg_none_of X G z_bool, len := PySem.W.mg_none_of X G z_len, all := PySem.W.mg_none_of X G z_all }
  have T : TerT K mg C CB := { cl := ⟨pg, hd, po, sa⟩, nK := n_kind, nP := n_parts, nD := n_depth, nS := n_size, mgC := PySem.W.mg_of X G aC, kStr := kit_no icC tyC no_str, kInt := kit_no icC tyC no_int, kTup := kit_no icC tyC no_tuple, ha := haC, hn := hnC, htk := htC, hm := hmC, sum := PySem.W.mg_none_of X G z_sum, max := PySem.W.mg_none_of X G z_max, tuple := PySem.W.mg_none_of X G z_tuple, depth := ⟨_, PySem.W.mg_of X G gDe, _, rfl⟩, size := ⟨_, PySem.W.mg_of X G gSi, _, rfl⟩ }
  have L : LawT K mg := { len := PySem.W.mg_none_of X G z_len, int := PySem.W.mg_none_of X G z_int, abs := PySem.W.mg_none_of X G z_abs, range := PySem.W.mg_none_of X G z_range }
  have ER : ErrT K mg CB := { gB := PySem.W.mg_of X G aB, xf := ⟨gaB, ggB, exB, hdB⟩, no := noB, te := exm_own exB icB tyB sbB }
  have TB : ErrTxt P K mg "BadTerm" CB fB := { gC := PySem.W.mg_of X G aB, cls := ⟨nmB, qB, NB, bsB, _, snB, subB, abB, colB, ddB, m0, m1, m2, m3, m5, xB, rfl⟩, ei := eiB, sa := saB, noN := noB, iC := iB, tC := tB, kC := kB, exC := exB, veC := veB, tyC := tyB, slf := mroB, sup := spB, opq := opq, gs := PySem.W.mg_none_of X G z_super, top := topB, fn := ⟨ocB, odB, anB, kVB, dcB, pmB, ctB, slB, _, cda, cc, ccl, clB, cdd, cld, ccs, csl, vsB, fileB, tfB, zM, b1, b2, q0, r0, r1, r2, r3, r4, r5, r6, r7, r8, lB, cB, oB, vB, fB1, ceB, zMB, lnB⟩ }
  have Fisname := fun_mk (st := (topS 7)) lisname cisname kisname
  have Bisname := Fisname.binds (ps := ["text"]) fun _ _ _ _ _ _ us hl => match us, hl with | [_], _ => rfl
  have Fisint := fun_mk (st := (topS 9)) lisint cisint kisint
  have Bisint := Fisint.binds (ps := ["value"]) fun _ _ _ _ _ _ us hl => match us, hl with | [_], _ => rfl
  have Fisshort := fun_mk (st := (topS 10)) lisshort cisshort kisshort
  have Bisshort := Fisshort.binds (ps := ["value"]) fun _ _ _ _ _ _ us hl => match us, hl with | [_], _ => rfl
  have Fisop := fun_mk (st := (topS 11)) lisop cisop kisop
  have Bisop := Fisop.binds (ps := ["part"]) fun _ _ _ _ _ _ us hl => match us, hl with | [_], _ => rfl
  have Fisseats := fun_mk (st := (topS 12)) lisseats cisseats kisseats
  have Bisseats := Fisseats.binds (ps := ["count"]) fun _ _ _ _ _ _ us hl => match us, hl with | [_], _ => rfl
  have Fdemand := fun_mk (st := (topS 22)) ldemand cdemand kdemand
  have Bdemand := Fdemand.binds (ps := ["allowed", "field"]) fun _ _ _ _ _ _ us hl => match us, hl with | [_, _], _ => rfl
  have Finner := fun_mk (st := (topS 23)) linner cinner kinner
  have Binner := Finner.binds (ps := ["kind", "parts"]) fun _ _ _ _ _ _ us hl => match us, hl with | [_, _], _ => rfl
  have Fsize := fun_mk (st := (topS 24)) lsize csize ksize
  have Bsize := Fsize.binds (ps := ["kind", "parts"]) fun _ _ _ _ _ _ us hl => match us, hl with | [_, _], _ => rfl
  have Fdepth := fun_mk (st := (topS 25)) ldepth cdepth kdepth
  have Bdepth := Fdepth.binds (ps := ["kind", "parts"]) fun _ _ _ _ _ _ us hl => match us, hl with | [_, _], _ => rfl
  have Fcellat := fun_mk (st := (topS 32)) lcellat ccellat kcellat
  have Bcellat := Fcellat.binds (ps := ["_law_script", "_law_k"]) fun _ _ _ _ _ _ us hl => match us, hl with | [_, _], _ => rfl
  have Fmixed := fun_mk (st := (topS 33)) lmixed cmixed kmixed
  have Bmixed := Fmixed.binds (ps := ["_law_cell", "_law_k"]) fun _ _ _ _ _ _ us hl => match us, hl with | [_, _], _ => rfl
  have Frow := fun_mk (st := (topS 34)) lrow crow krow
  have Brow := Frow.binds (ps := ["_law_cell", "_law_many"]) fun _ _ _ _ _ _ us hl => match us, hl with | [_, _], _ => rfl
  have Fsname := fun_mk (st := (topS 35)) lsname csname ksname
  have Bsname := Fsname.binds (ps := ["_law_draw"]) fun _ _ _ _ _ _ us hl => match us, hl with | [_], _ => rfl
  have Fsop := fun_mk (st := (topS 36)) lsop csop ksop
  have Bsop := Fsop.binds (ps := ["_law_draw"]) fun _ _ _ _ _ _ us hl => match us, hl with | [_], _ => rfl
  have Fgood := fun_mk (st := (topS 37)) lgood cgood kgood
  have Bgood := Fgood.binds (ps := ["_law_thing"]) fun _ _ _ _ _ _ us hl => match us, hl with | [_], _ => rfl
  have Ftower := fun_mk (st := (topS 38)) ltower ctower ktower
  have Btower := Ftower.binds (ps := ["_law_depth"]) fun _ _ _ _ _ _ us hl => match us, hl with | [_], _ => rfl
  have Fistower := fun_mk (st := (topS 39)) listower cistower kistower
  have Bistower := Fistower.binds (ps := ["_law_process", "_law_depth"]) fun _ _ _ _ _ _ us hl => match us, hl with | [_, _], _ => rfl
  have Flnew := fun_mk (st := (topS 40)) llnew clnew klnew
  have Blnew := Flnew.binds (ps := ["_law_row_here"]) fun _ _ _ _ _ _ us hl => match us, hl with | [_], _ => rfl
  have Flwhen := fun_mk (st := (topS 41)) llwhen clwhen klwhen
  have Blwhen := Flwhen.binds (ps := ["_law_row_here"]) fun _ _ _ _ _ _ us hl => match us, hl with | [_], _ => rfl
  have Flcall := fun_mk (st := (topS 42)) llcall clcall klcall
  have Blcall := Flcall.binds (ps := ["_law_row_here"]) fun _ _ _ _ _ _ us hl => match us, hl with | [_], _ => rfl
  have Flaw := fun_mk (st := (topS 43)) llaw claw klaw
  have Blaw := Flaw.binds (ps := ["_law_script"]) fun _ _ _ _ _ _ us hl => match us, hl with | [_], _ => rfl
  have Finit := fun_mk (st := (inClass (topS 26) 0)) linit cinit kinit
  have Binit := Finit.binds (ps := ["self", "kind", "parts"]) fun _ _ _ _ _ _ us hl => match us, hl with | [_, _, _], _ => rfl
  have Fststop := fun_mk (st := (inClass (topS 26) 1)) lststop cststop kststop
  have Bststop := Fststop.binds (ps := []) fun _ _ _ _ _ _ us hl => match us, hl with | [], _ => rfl
  have Fstnew := fun_mk (st := (inClass (topS 26) 3)) lstnew cstnew kstnew
  have Bstnew := Fstnew.binds (ps := ["name", "seats", "rest"]) fun _ _ _ _ _ _ us hl => match us, hl with | [_, _, _], _ => rfl
  have Fstwhen := fun_mk (st := (inClass (topS 26) 4)) lstwhen cstwhen kstwhen
  have Bstwhen := Fstwhen.binds (ps := ["left", "right", "yes", "no"]) fun _ _ _ _ _ _ us hl => match us, hl with | [_, _, _, _], _ => rfl
  have Fstcall := fun_mk (st := (inClass (topS 26) 5)) lstcall cstcall kstcall
  have Bstcall := Fstcall.binds (ps := ["name", "operands"]) fun _ _ _ _ _ _ us hl => match us, hl with | [_, _], _ => rfl
  refine ⟨PySem.W.fnOf "law" "law" (defArgs (topS 43)) (defBody (topS 43)) (defScope (topS 43)) .none kVlaw dclaw pmlaw anlaw cdlaw ctlaw, fun s v => .of_eq rfl, fun base _ _ => ?_⟩
  have Gisname : CalX P w K mg base CX0 1 "is_name" (spPred nameV) := ⟨_, _, _, ok_is_name Fisname B, PySem.W.mg_of X G aisname, kisname, Bisname⟩
  have Gisint : CalX P w K mg base CX0 1 "is_int" (spPred intV) := ⟨_, _, _, ok_is_int Fisint B, PySem.W.mg_of X G aisint, kisint, Bisint⟩
  have Gisshort : CalX P w K mg base CX0 2 "is_short" (spPred shortV) := ⟨_, _, _, ok_is_short Fisshort B Gisint, PySem.W.mg_of X G aisshort, kisshort, Bisshort⟩
  have Gisop : CalX P w K mg base CX0 3 "is_operand" (spPred operandV) := ⟨_, _, _, ok_is_operand Fisop Gisshort Gisname, PySem.W.mg_of X G aisop, kisop, Bisop⟩
  have Gisseats : CalX P w K mg base CX0 2 "is_seats" (spPred seatsV) := ⟨_, _, _, ok_is_seats Fisseats B Gisint, PySem.W.mg_of X G aisseats, kisseats, Bisseats⟩
  have Ginner : CalX P w K mg base CX0 1 "inner_processes" (spInner C) := ⟨_, _, _, ok_inner Finner B T, PySem.W.mg_of X G ainner, kinner, Binner⟩
  have Gdepth : CalX P w K mg base CX0 2 "depth_of" (spSize C Pr.depth) := ⟨_, _, _, ok_depth Fdepth T Ginner, PySem.W.mg_of X G adepth, kdepth, Bdepth⟩
  have Gsize : CalX P w K mg base CX0 2 "size_of" (spSize C Pr.size) := ⟨_, _, _, ok_size Fsize B T Ginner, PySem.W.mg_of X G asize, ksize, Bsize⟩
  have OD : FnOk P w K mg base (L2.CX P w) 2 fdemand _ ["allowed", "field"] (spDemand CB) := ok_demand Fdemand (raises_bt (k := 1) (by decide) TB)
  have G2d : CalX P w K mg base (L2.CX P w) 2 "demand" (spDemand CB) := ⟨_, _, _, OD, PySem.W.mg_of X G ademand, kdemand, Bdemand⟩
  have G3d : CalX P w K mg base (L2.CX P w) 3 "demand" (spDemand CB) := ⟨_, _, _, OD.mono (by decide), PySem.W.mg_of X G ademand, kdemand, Bdemand⟩
  have GM : MakX P w K mg base (L2.CX P w) 3 "Process" C (spInit C CB) := ⟨_, _, _, ⟨mk, aInit, iInit, kc⟩, ok_init Finit T Gdepth Gsize G2d (Nat.le_refl _), PySem.W.mg_of X G aC, Binit⟩
  have M : MakT P w K mg base C CB 3 := { make := GM, dem := G3d, name := Gisname, seats := Gisseats, operand := Gisop, mops := ⟨_, PySem.W.mg_of X G gOp, _, rfl⟩, tuple := PySem.W.mg_none_of X G z_tuple, len := PySem.W.mg_none_of X G z_len, all := PySem.W.mg_none_of X G z_all, hk := Nat.le_refl _ }
  have Sstop : StaX P w K mg base (L2.CX P w) 5 C "stop" (spStop C CB) := ⟨_, _, _, _, _, ⟨rdC, gaC⟩, ⟨sstop, ⟨_, rstop⟩, kststop⟩, ok_stop Fststop M, Bststop⟩
  have Snew : StaX P w K mg base (L2.CX P w) 5 C "new" (spNew C CB) := ⟨_, _, _, _, _, ⟨rdC, gaC⟩, ⟨snew, ⟨_, rnew⟩, kstnew⟩, ok_new Fstnew M, Bstnew⟩
  have Swhen : StaX P w K mg base (L2.CX P w) 5 C "when" (spWhen C CB) := ⟨_, _, _, _, _, ⟨rdC, gaC⟩, ⟨swhen, ⟨_, rwhen⟩, kstwhen⟩, ok_when Fstwhen M, Bstwhen⟩
  have Scall : StaX P w K mg base (L2.CX P w) 5 C "call" (spCall K C CB) := ⟨_, _, _, _, _, ⟨rdC, gaC⟩, ⟨scall, ⟨_, rcall⟩, kstcall⟩, ok_call Fstcall M, Bstcall⟩
  have ST : StaT P w K mg base C CB 5 := ⟨PySem.W.mg_of X G aC, Sstop, Snew⟩
  have Gcellat : CalX P w K mg base CX0 1 "_law_cell_at" (spCellAt K) := ⟨_, _, _, ok_cell_at Fcellat L, PySem.W.mg_of X G acellat, kcellat, Bcellat⟩
  have Gmixed : CalX P w K mg base CX0 1 "_law_mixed" spMixed := ⟨_, _, _, ok_mixed Fmixed L, PySem.W.mg_of X G amixed, kmixed, Bmixed⟩
  have Grow : CalX P w K mg base CX0 2 "_law_row" spRow := ⟨_, _, _, ok_row Frow L Gmixed, PySem.W.mg_of X G arow, krow, Brow⟩
  have Gsname : CalX P w K mg base CX0 1 "_law_some_name" spSomeName := ⟨_, _, _, ok_some_name Fsname L, PySem.W.mg_of X G asname, ksname, Bsname⟩
  have Gsop : CalX P w K mg base CX0 2 "_law_some_operand" spSomeOperand := ⟨_, _, _, ok_some_operand Fsop L Gsname, PySem.W.mg_of X G asop, ksop, Bsop⟩
  have Ggood : CalX P w K mg base CX0 1 "_law_good" spGood := ⟨_, _, _, ok_good Fgood B, PySem.W.mg_of X G agood, kgood, Bgood⟩
  have Gtower : CalX P w K mg base CX0 6 "_law_tower" (spTower C) := ⟨_, _, _, ok_tower Ftower L ST, PySem.W.mg_of X G atower, ktower, Btower⟩
  have Gistower : CalX P w K mg base CX0 1 "_law_is_tower" (spIsTower C) := ⟨_, _, _, ok_is_tower Fistower L T, PySem.W.mg_of X G aistower, kistower, Bistower⟩
  have HT : HelpT P w K mg base C CB 5 := { name := Gsname, operand := Gsop, good := Ggood, tower := Gtower, isTower := Gistower, hk := by decide }
  have Glnew : CalX P w K mg base CX0 7 "_law_new" (spTrueRow 8) := ⟨_, _, _, ok_lnew Flnew L B T ST HT ER, PySem.W.mg_of X G alnew, klnew, Blnew⟩
  have Glwhen : CalX P w K mg base CX0 7 "_law_when" (spTrueRow 8) := ⟨_, _, _, ok_lwhen Flwhen L B T (PySem.W.mg_of X G aC) Swhen HT ER, PySem.W.mg_of X G alwhen, klwhen, Blwhen⟩
  have Glcall : CalX P w K mg base CX0 7 "_law_call" (spTrueRow 8) := ⟨_, _, _, ok_lcall Flcall L B T (PySem.W.mg_of X G aC) Scall HT ER, PySem.W.mg_of X G alcall, klcall, Blcall⟩
  exact ok_law (by decide) Flaw L Gcellat Grow Glnew Glwhen Glcall
theorem walk {l : PySem.W.OpenLaw} {q : Program} {loose : List Str} {XP : (Str → Option Value) → Heap → Prop} {YP : World → Heap → Prop} {d : DefRec} {K : Params → PySem.W.Frag} (hn : l.most = some 63) (hdf : d.params.defaults = [])
    (hY : ∀ (w : World) (h : Heap), YP w h → (K w.params).In h)
    (hF : ∀ (w : World) (mg : Str → Option Value) (fa : Addr) (h : Heap), (K w.params).In h → h.Ns mainGlobals mg → mg d.name = some (.ref fa) →
      ∃ fd : FuncData, (∀ (s : Shared) (u : Value), BindsTo s fd ⟨[u], []⟩ [("_law_script", u)]) ∧ ∀ base : Heap, (K w.params).In base → base.Ns mainGlobals mg → FnOk l.prog w (K w.params) mg base CX0 8 fa fd ["_law_script"] (spLaw (K w.params))) :
    PySem.W.WalkO q loose XP YP l.row.toRowW d [] (fun f vs => PySem.call f vs) :=
  L2.walk_of (n := 63) (k := 8) (x := "_law_script") (CX := fun _ => CX0) (sp := fun w => spLaw (K w.params)) hn (by decide) hdf ⟨rfl, by decide, by decide⟩ hY hF (fun _ _ a ns _ _ hS => ⟨a, ns, rfl, hS, fun _ _ => rfl⟩) fun _ _ _ _ _ z => z
end Fs

open PySem PySem.W PyProof.Rows
set_option Elab.async false
set_option maxRecDepth 100000 in
set_option maxHeartbeats 0 in
theorem PySem.Challenge.cw_fullseats_k03_new_if_and_call_built_holds : PySem.Challenge.rw_fullseats_k03_new_if_and_call_built.Holds := by
  w_on; o_law; k_head; (case hw => w_witness2)
  k_fill
  refine Fs.walk (l := PySem.Challenge.rw_fullseats_k03_new_if_and_call_built) rfl rfl (fun w h Y => PySem.W.kIn_of Y) ?F
  case F =>
    intro w mg fa h KX G hmg
    refine' Fs.all_mk KX G hmg ?aisname ?lisname ?cisname ?kisname ?aisint ?lisint ?cisint ?kisint ?aisshort ?lisshort ?cisshort ?kisshort ?aisop ?lisop ?cisop ?kisop ?aisseats ?lisseats ?cisseats ?kisseats ?ademand ?ldemand ?cdemand ?kdemand ?ainner ?linner ?cinner ?kinner ?asize ?lsize ?csize ?ksize ?adepth ?ldepth ?cdepth ?kdepth ?acellat ?lcellat ?ccellat ?kcellat ?amixed ?lmixed ?cmixed ?kmixed ?arow ?lrow ?crow ?krow ?asname ?lsname ?csname ?ksname ?asop ?lsop ?csop ?ksop ?agood ?lgood ?cgood ?kgood ?atower ?ltower ?ctower ?ktower ?aistower ?listower ?cistower ?kistower ?alnew ?llnew ?clnew ?klnew ?alwhen ?llwhen ?clwhen ?klwhen ?alcall ?llcall ?clcall ?klcall ?alaw ?llaw ?claw ?klaw ?aC ?pg ?hd ?po ?sa ?n_kind ?n_parts ?n_depth ?n_size ?mk ?kc ?aInit ?iInit ?linit ?cinit ?kinit ?rdC ?gaC ?sstop ?rstop ?lststop ?cststop ?kststop ?snew ?rnew ?lstnew ?cstnew ?kstnew ?swhen ?rwhen ?lstwhen ?cstwhen ?kstwhen ?scall ?rcall ?lstcall ?cstcall ?kstcall ?icC ?tyC ?no_str ?no_int ?no_tuple ?haC ?hnC ?htC ?hmC ?aB ?xB ?eiB ?saB ?noB ?iB ?tB ?kB ?exB ?veB ?tyB ?mroB ?spB ?opq ?lB ?cB ?oB ?vB ?fB1 ?ceB ?lnB ?zMB ?topB ?gaB ?ggB ?hdB ?icB ?sbB ?gL ?hL ?gD ?hD ?gN ?hN ?gT ?hT ?gM ?hM ?gDe ?hDe ?gSi ?hSi ?gOp ?hOp ?gR ?lR ?sR ?hR ?z_isinstance ?z_str ?z_int ?z_bool ?z_len ?z_all ?z_sum ?z_max ?z_tuple ?z_abs ?z_range ?z_super
    (case aisname => k_is)
    (case lisname => k_is)
    (case cisname => k_is)
    (case kisname => k_is)
    (case aisint => k_is)
    (case lisint => k_is)
    (case cisint => k_is)
    (case kisint => k_is)
    (case aisshort => k_is)
    (case lisshort => k_is)
    (case cisshort => k_is)
    (case kisshort => k_is)
    (case aisop => k_is)
    (case lisop => k_is)
    (case cisop => k_is)
    (case kisop => k_is)
    (case aisseats => k_is)
    (case lisseats => k_is)
    (case cisseats => k_is)
    (case kisseats => k_is)
    (case ademand => k_is)
    (case ldemand => k_is)
    (case cdemand => k_is)
    (case kdemand => k_is)
    (case ainner => k_is)
    (case linner => k_is)
    (case cinner => k_is)
    (case kinner => k_is)
    (case asize => k_is)
    (case lsize => k_is)
    (case csize => k_is)
    (case ksize => k_is)
    (case adepth => k_is)
    (case ldepth => k_is)
    (case cdepth => k_is)
    (case kdepth => k_is)
    (case acellat => k_is)
    (case lcellat => k_is)
    (case ccellat => k_is)
    (case kcellat => k_is)
    (case amixed => k_is)
    (case lmixed => k_is)
    (case cmixed => k_is)
    (case kmixed => k_is)
    (case arow => k_is)
    (case lrow => k_is)
    (case crow => k_is)
    (case krow => k_is)
    (case asname => k_is)
    (case lsname => k_is)
    (case csname => k_is)
    (case ksname => k_is)
    (case asop => k_is)
    (case lsop => k_is)
    (case csop => k_is)
    (case ksop => k_is)
    (case agood => k_is)
    (case lgood => k_is)
    (case cgood => k_is)
    (case kgood => k_is)
    (case atower => k_is)
    (case ltower => k_is)
    (case ctower => k_is)
    (case ktower => k_is)
    (case aistower => k_is)
    (case listower => k_is)
    (case cistower => k_is)
    (case kistower => k_is)
    (case alnew => k_is)
    (case llnew => k_is)
    (case clnew => k_is)
    (case klnew => k_is)
    (case alwhen => k_is)
    (case llwhen => k_is)
    (case clwhen => k_is)
    (case klwhen => k_is)
    (case alcall => k_is)
    (case llcall => k_is)
    (case clcall => k_is)
    (case klcall => k_is)
    (case alaw => k_is)
    (case llaw => k_is)
    (case claw => k_is)
    (case klaw => k_is)
    (case aC => k_is)
    (case pg => k_is)
    (case hd => k_is)
    (case po => k_is)
    (case sa => k_is)
    (case n_kind => k_is)
    (case n_parts => k_is)
    (case n_depth => k_is)
    (case n_size => k_is)
    (case mk => k_is)
    (case kc => k_is)
    (case aInit => k_is)
    (case iInit => k_is)
    (case linit => k_is)
    (case cinit => k_is)
    (case kinit => k_is)
    (case rdC => k_is)
    (case gaC => k_is)
    (case sstop => k_is)
    (case rstop => k_is)
    (case lststop => k_is)
    (case cststop => k_is)
    (case kststop => k_is)
    (case snew => k_is)
    (case rnew => k_is)
    (case lstnew => k_is)
    (case cstnew => k_is)
    (case kstnew => k_is)
    (case swhen => k_is)
    (case rwhen => k_is)
    (case lstwhen => k_is)
    (case cstwhen => k_is)
    (case kstwhen => k_is)
    (case scall => k_is)
    (case rcall => k_is)
    (case lstcall => k_is)
    (case cstcall => k_is)
    (case kstcall => k_is)
    (case icC => k_is)
    (case tyC => k_is)
    (case no_str => k_is)
    (case no_int => k_is)
    (case no_tuple => k_is)
    (case haC => k_is)
    (case hnC => k_is)
    (case htC => k_is)
    (case hmC => k_is)
    (case aB => k_is)
    (case xB => k_is)
    (case eiB => kx_is)
    (case saB => k_is)
    (case noB => k_is)
    (case iB => k_is)
    (case tB => k_is)
    (case kB => k_is)
    (case exB => k_is)
    (case veB => k_is)
    (case tyB => k_is)
    (case mroB => k_is)
    (case spB => ks_is)
    (case opq => k_is)
    (case lB => k_is)
    (case cB => k_is)
    (case oB => k_is)
    (case vB => rfl)
    (case fB1 => decide +kernel)
    (case ceB => k_is)
    (case lnB => decide +kernel)
    (case zMB => decide +kernel)
    (case topB => decide +kernel)
    (case gaB => k_is)
    (case ggB => k_is)
    (case hdB => k_is)
    (case icB => k_is)
    (case sbB => first | rfl | k_is)
    (case gL => k_is)
    (case hL => decide +kernel)
    (case gD => k_is)
    (case hD => decide +kernel)
    (case gN => k_is)
    (case hN => decide +kernel)
    (case gT => k_is)
    (case hT => decide +kernel)
    (case gM => k_is)
    (case hM => decide +kernel)
    (case gDe => k_is)
    (case hDe => decide +kernel)
    (case gSi => k_is)
    (case hSi => decide +kernel)
    (case gOp => k_is)
    (case hOp => decide +kernel)
    (case gR => k_is)
    (case lR => k_is)
    (case sR => decide +kernel)
    (case hR => exact .cons ⟨_, rfl⟩ (.cons ⟨_, rfl⟩ (.cons ⟨_, rfl⟩ (.cons ⟨_, rfl⟩ (.cons ⟨_, rfl⟩ (.cons ⟨_, rfl⟩ (.cons ⟨_, rfl⟩ (.cons ⟨_, rfl⟩ (.cons ⟨_, rfl⟩ (.cons ⟨_, rfl⟩ (.cons ⟨_, rfl⟩ .nil)))))))))))
    (case z_isinstance => k_is)
    (case z_str => k_is)
    (case z_int => k_is)
    (case z_bool => k_is)
    (case z_len => k_is)
    (case z_all => k_is)
    (case z_sum => k_is)
    (case z_max => k_is)
    (case z_tuple => k_is)
    (case z_abs => k_is)
    (case z_range => k_is)
    (case z_super => k_is)

