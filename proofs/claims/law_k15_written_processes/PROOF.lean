import PyProof.Rows.All
import Wide.All
import OpenK.AllK
import Wide.FinOn
import HandS.Base
import HandS.Call
import HandS.List
import HandS.Exc
import HandS.ExcOwn
import HandS.ClsMeth
import KE.DatumOrd
import HandS.SortKw
import HandS.ForMost
import HandS.Evl
import HandS.ForExc
import HandS.Walk
import HandS.IsInst
import HandS.Codes
import PyProof.FString
import KE.KSuper
import KE.KExcSuper
import KE.OsGo
import HandS.Strs
import HandS.TupSets
import HandS.Flow
import HandS.TupAny
import PyProof.StrBlock2
import HandS.Text
import HandS.RaiseMore
import PyProof.FitsInt
import KE.KExcLine
import KE.RegKSuper
import PySem.Challenge.RW_fullseats_k15_written_processes
set_option Elab.async false
set_option linter.all false
set_option maxRecDepth 100000
set_option maxHeartbeats 2000000
/-! A staticmethod that is called off its class. -/
namespace FsR
open PySem PySem.Spec PyProof.Rows L2 ClX
structure SMet (K : PySem.W.Frag) (C : Addr) (mc : Value) (m : Str) (p g : Addr) : Prop where
  at_ : PySem.W.findCls K (.ref C) mc m = some (.get (.builtin "staticmethod.__get__") (.ref p) .none (.ref C))
  rc : ∃ rest, PySem.W.recIn K p "staticmethod" = some (.ref g :: rest)
  kp : PySem.W.keepIn K (.ref g) = true
section
variable {X : Cx} {pins : List (Addr × Obj)} {σ : L2.St} {H : Hp} {s : Shared} {C p g : Addr} {mc : Value} {m : Str} {A : Around} {E : Value → Shared → Prop}
theorem getmethsm_ok {pl : Sem Bool} {Q : Value × List Value → Shared → Prop} (I : Inv X pins σ H s) (r : CRead X.K C mc) (k : SMet X.K C mc m p g)
    (h : ∀ s', Inv X pins σ H s' → Q (.ref g, []) s') : wpAny (model X.prog X.w) A (getMethod (.ref C) m pl) Q E s := by
  obtain ⟨rest, hp⟩ := k.rc
  exact PySem.W.method_cls I.kIn r.ga (PySem.W.cls_bind I.kIn r.rd k.at_ (wpAny_call (PySem.W.sm_get (s := { s with toks := s.toks + 1 }) I.kIn hp (PySem.W.handed_on rfl (h _ (I.tok _))))))
end
/-- C.m(..), e the class at C, m a staticmethod; E: what is wanted of what it raises, at the slots -/
def tStat (C : Addr) (sp : Sp) (E : L2.St → XK) (ta : TE) (t : TA) : TE := fun σ H Q => ta σ H fun x H1 => x = .ref C ∧ t σ H1 fun vs H2 => sp vs H2 Q (E σ)
theorem passesAt_of {CX : CXT} {X : Cx} {E : XK} (h : Passes CX X E) (σ : L2.St) : PassesAt CX X σ E := fun pins H s e s' I c => h pins σ H s e s' I c
section
variable {X : Cx} {CX : CXT} {k : Nat} {C p g : Addr} {mc : Value} {fd : FuncData} {ps : List Str} {sp : Sp} {E : L2.St → XK} {o e : Expr} {es : List Expr} {m : Str} {pos apos : Pos} {ta : TE} {t : TA} {pl : Sem Bool}
theorem pe_stat (he : PE X o ta) (r : CRead X.K C mc) (c : SMet X.K C mc m p g) (F : FnOk X.prog X.w X.K X.mg X.base CX k g fd ps sp) (hr : Room k X.A) (hb : Binds X.K fd ps []) (hx : ∀ σ, PassesAt CX X σ (E σ)) (ha : PA X (e :: es) t)
    (hst : starEach (e :: es) X.env = (false, eval e X.env) :: starEach es X.env := by rfl) (hpl : (backTo pos (starEach es X.env)).any (·.1) = false := by rfl)
    (ht : eval (.Call (.Attribute o m apos) (e :: es) [] pos) X.env = (do
      let ov ← eval o X.env
      standAt apos.atName
      let (f, first) ← holding [ov] (getMethod ov m pl)
      callWith pos f first (backTo pos (starEach (e :: es) X.env)) (backToKw pos (keywordEach [] X.env))) := by rfl) :
    PE X (.Call (.Attribute o m apos) (e :: es) [] pos) (tStat C sp E ta t) := by
  refine ⟨fun pins s σ H Q I h => ?_⟩
  refine PySem.W.methodCall_KW (pl := pl) (thn (he.run pins s σ H _ I h) fun u s1 ⟨x, H1, I1, rx, ex, q⟩ => ?_) ht
  subst ex
  obtain rfl : u = Value.ref C := rx
  refine getmethsm_ok I1 r c fun s2 I2 => ?_
  refine PySem.W.callWith_K (first := []) (h₀ := X.base) I.ok.mod.kin c.kp (thn (ha.run pos pins s2 σ H1 _ I2 q) fun us s3 ⟨vs, H2, I3, rv, q2⟩ => ⟨I3.kIn, ?_⟩) hst hpl
  exact run_fnS F hr hb (hx σ) I3 rv q2
theorem pe_stat0 (he : PE X o ta) (r : CRead X.K C mc) (c : SMet X.K C mc m p g) (F : FnOk X.prog X.w X.K X.mg X.base CX k g fd ps sp) (hr : Room k X.A) (hb : Binds X.K fd ps []) (hx : ∀ σ, PassesAt CX X σ (E σ))
    (ht : eval (.Call (.Attribute o m apos) [] [] pos) X.env = (do
      let ov ← eval o X.env
      standAt apos.atName
      let (f, first) ← holding [ov] (getMethod ov m pl)
      callWith pos f first (backTo pos (starEach [] X.env)) (backToKw pos (keywordEach [] X.env))) := by rfl) :
    PE X (.Call (.Attribute o m apos) [] [] pos) (tStat C sp E ta tNil) := by
  refine ⟨fun pins s σ H Q I h => ?_⟩
  refine PySem.W.methodCall_KW (pl := pl) (thn (he.run pins s σ H _ I h) fun u s1 ⟨x, H1, I1, rx, ex, q⟩ => ?_) ht
  subst ex
  obtain rfl : u = Value.ref C := rx
  refine getmethsm_ok I1 r c fun s2 I2 => ?_
  exact PySem.W.callWith_K0 (first := []) I2.kIn c.kp (run_fnS (us := []) (vs := []) F hr hb (hx σ) I2 .nil q)
end
end FsR

set_option Elab.async false
set_option linter.all false
set_option maxRecDepth 100000
set_option maxHeartbeats 2000000
/-! max(xs, default=d) of a list of ints -/
namespace FsR
open PySem PySem.Spec PyProof.Rows L2
def maxFrom (y : Int) (ys : List Int) : Int := ys.foldl max y
def maxDef (d : Int) : List Int → Int
  | [] => d
  | y :: ys => maxFrom y ys
theorem maxOf_eq : ∀ (ys : List Int) (y : Int), PySem.W.maxOf y ys = maxFrom y ys
  | [], y => rfl
  | z :: zs, y => by
    have e : (if PySem.W.DatumOrd.lt y z = true then z else y) = max y z := by
      show (if decide (y < z) = true then z else y) = max y z
      by_cases h : y < z
      · rw [if_pos (decide_eq_true h)]; omega
      · rw [if_neg (by simpa using h)]; omega
    have ih := maxOf_eq zs (max y z)
    unfold PySem.W.maxOf maxFrom at *
    rw [List.foldl_cons, List.foldl_cons, e]
    exact ih
theorem readsAll_ints {h : Heap} : ∀ {vs : List Value} {ns : List Int}, IntsAre vs ns → ∃ as, ReadsAll h vs (ns.map PySem.W.Datum.toD) as
  | _, _, .nil => ⟨[], .nil⟩
  | _, _, .cons n t r => by
    obtain ⟨as, z⟩ := readsAll_ints (h := h) r
    exact ⟨[] ++ as, .cons (.int n t) z⟩
/-- max(xs, default=d) -/
def rMaxD (K : PySem.W.Frag) : List V → List V → Hp → VK → Prop := fun xs zs H Q => ∃ (a : Addr) (ns : List Int) (d : Int), xs = [V.ref a] ∧ zs = [V.int d] ∧ SqL K H a (ns.map V.int) ∧ Q (.int (maxDef d ns)) H
theorem ck_maxD {X : Cx} (hc : X.calm = true) (hu : X.A.units + 1 + 1 < cLine) : CallRK X (.builtin "max") ["default"] (rMaxD X.K) := by
  intro pins s σ H xs zs us ws Q I r rz h
  obtain ⟨a, ns, d, rfl, rfl, hs, q⟩ := h
  obtain ⟨its, rv, hl, _⟩ := I.list hs
  rw [Vals.ref1 r]
  cases rz with
  | cons rd rn =>
    cases rn
    obtain ⟨t, rfl⟩ := rd
    have hI := rv.ints
    show wpAny (model X.prog X.w) X.A (call (.builtin "max") [.ref a] [(Str.ofString "default", .int d t)]) _ _ _
    refine PySem.W.max_list_datum_default (α := Int) (xs := ns) (I.ok.hd hc) hl.isList (readsAll_ints hI) (by show X.A.units + 1 + 0 < cLine; omega) (fun e h' tk hk => ?_) (fun y ys i v h' tk e hi hv hk => ?_)
    · subst e
      exact ⟨.int d, H, I.kept hk, ⟨t, rfl⟩, q⟩
    · subst e
      obtain ⟨as, z⟩ := hv
      have z' : ∃ t', v = Value.int (PySem.W.maxOf y ys) t' := by
        have z2 : Reads h' v (.int (PySem.W.maxOf y ys)) as := z
        cases z2 with
        | int _ t' => exact ⟨t', rfl⟩
      obtain ⟨t', rfl⟩ := z'
      refine ⟨.int (PySem.W.maxOf y ys), H, I.kept hk, ⟨t', rfl⟩, ?_⟩
      rw [maxOf_eq]
      exact q
end FsR

set_option Elab.async false
set_option linter.all false
set_option maxRecDepth 100000
set_option maxHeartbeats 2000000
namespace Fs
open PySem L2 Evl
/-! ### operands, processes, offers -/
inductive Opd where
  | int (i : Int)
  | nm (z : Str)
def Opd.v : Opd → V
  | .int i => .int i
  | .nm z => .str z
mutual
inductive Pr where
  | choice (os : Ofs)
  | new (n : Str) (k : Int) (r : Pr)
  | cond (l r : Opd) (y n : Pr)
  | call (n : Str) (ops : List Opd)
inductive Ofs where
  | nil
  | cons (c : Str) (seat seats : Int) (op : Opd) (names : List Str) (rest : Pr) (os : Ofs)
end
mutual
def Pr.depth : Pr → Int
  | .choice os => 1 + os.depth
  | .new _ _ r => 1 + r.depth
  | .cond _ _ y n => 1 + max y.depth n.depth
  | .call _ _ => 1
def Ofs.depth : Ofs → Int
  | .nil => 0
  | .cons _ _ _ _ _ r os => max r.depth os.depth
end
def Ofs.len : Ofs → Nat
  | .nil => 0
  | .cons _ _ _ _ _ _ os => os.len + 1
mutual
def Pr.size : Pr → Int
  | .choice os => max 1 (os.len : Int) + os.sum
  | .new _ _ r => 1 + r.size
  | .cond _ _ y n => 1 + (y.size + n.size)
  | .call _ _ => 1
def Ofs.sum : Ofs → Int
  | .nil => 0
  | .cons _ _ _ _ _ r os => r.size + os.sum
end
def Pr.kind : Pr → Str
  | .choice _ => "choice"
  | .new _ _ _ => "new"
  | .cond _ _ _ _ => "if"
  | .call _ _ => "call"
/-- the attributes, in the order in which __init__ stores them -/
def pFlds (k : Str) (t : Addr) (d z : Int) : List (Str × V) := putF "size" (.int z) (putF "depth" (.int d) (putF "parts" (.ref t) (putF "kind" (.str k) [])))
theorem n1 : ¬ (("kind" : Str) = "parts") := by decide +kernel
theorem n2 : ¬ (("kind" : Str) = "depth") := by decide +kernel
theorem n3 : ¬ (("kind" : Str) = "size") := by decide +kernel
theorem n4 : ¬ (("parts" : Str) = "depth") := by decide +kernel
theorem n5 : ¬ (("parts" : Str) = "size") := by decide +kernel
theorem n6 : ¬ (("depth" : Str) = "size") := by decide +kernel
theorem pf_kind {k : Str} {t : Addr} {d z : Int} : (pFlds k t d z).lookup ("kind" : Str) = some (.str k) := by
  unfold pFlds
  rw [lookup_putF, if_neg n3, lookup_putF, if_neg n2, lookup_putF, if_neg n1, lookup_putF, if_pos rfl]
theorem pf_parts {k : Str} {t : Addr} {d z : Int} : (pFlds k t d z).lookup ("parts" : Str) = some (.ref t) := by
  unfold pFlds
  rw [lookup_putF, if_neg n5, lookup_putF, if_neg n4, lookup_putF, if_pos rfl]
theorem pf_depth {k : Str} {t : Addr} {d z : Int} : (pFlds k t d z).lookup ("depth" : Str) = some (.int d) := by
  unfold pFlds
  rw [lookup_putF, if_neg n6, lookup_putF, if_pos rfl]
theorem pf_size {k : Str} {t : Addr} {d z : Int} : (pFlds k t d z).lookup ("size" : Str) = some (.int z) := by
  unfold pFlds
  rw [lookup_putF, if_pos rfl]
/-- an instance of the class at C with these parts -/
def InsAt (C : Addr) (H : Hp) (a : Addr) (k : Str) (t : Addr) (d z : Int) : Prop := ∃ dx, H a = some (.ins C dx (pFlds k t d z))
mutual
/-- at a stands the process p -/
def PrAt (C : Addr) (H : Hp) (a : Addr) : Pr → Prop
  | .choice os => ∃ t ps, InsAt C H a "choice" t (1 + os.depth) (max 1 (os.len : Int) + os.sum) ∧ H t = some (.tup ps) ∧ OfsAt C H ps os
  | .new n k r => ∃ t b, InsAt C H a "new" t (1 + r.depth) (1 + r.size) ∧ H t = some (.tup [.str n, .int k, .ref b]) ∧ PrAt C H b r
  | .cond l r y n => ∃ t b c, InsAt C H a "if" t (1 + max y.depth n.depth) (1 + (y.size + n.size)) ∧ H t = some (.tup [l.v, r.v, .ref b, .ref c]) ∧ PrAt C H b y ∧ PrAt C H c n
  | .call n ops => ∃ t u, InsAt C H a "call" t 1 1 ∧ H t = some (.tup [.str n, .ref u]) ∧ H u = some (.tup (ops.map Opd.v))
def OfsAt (C : Addr) (H : Hp) (ps : List V) : Ofs → Prop
  | .nil => ps = []
  | .cons c s m op ns r os => ∃ o u b qs, ps = .ref o :: qs ∧ H o = some (.tup [.str c, .int s, .int m, op.v, .ref u, .ref b]) ∧ H u = some (.tup (ns.map V.str)) ∧ PrAt C H b r ∧ OfsAt C H qs os
end
theorem InsAt.ex {C : Addr} {H H' : Hp} {a : Addr} {k : Str} {t : Addr} {d z : Int} (e : Ex H H') (h : InsAt C H a k t d z) : InsAt C H' a k t d z := by
  obtain ⟨dx, h⟩ := h
  exact ⟨dx, e _ _ h⟩
mutual
theorem PrAt.ex {C : Addr} {H H' : Hp} (e : Ex H H') : ∀ {p : Pr} {a : Addr}, PrAt C H a p → PrAt C H' a p
  | .choice os, a, h => by
    unfold PrAt at h ⊢
    obtain ⟨t, ps, h1, h2, h3⟩ := h
    exact ⟨t, ps, h1.ex e, e _ _ h2, OfsAt.ex e h3⟩
  | .new n k r, a, h => by
    unfold PrAt at h ⊢
    obtain ⟨t, b, h1, h2, h3⟩ := h
    exact ⟨t, b, h1.ex e, e _ _ h2, PrAt.ex e h3⟩
  | .cond l r y n, a, h => by
    unfold PrAt at h ⊢
    obtain ⟨t, b, c, h1, h2, h3, h4⟩ := h
    exact ⟨t, b, c, h1.ex e, e _ _ h2, PrAt.ex e h3, PrAt.ex e h4⟩
  | .call n ops, a, h => by
    unfold PrAt at h ⊢
    obtain ⟨t, u, h1, h2, h3⟩ := h
    exact ⟨t, u, h1.ex e, e _ _ h2, e _ _ h3⟩
theorem OfsAt.ex {C : Addr} {H H' : Hp} (e : Ex H H') : ∀ {os : Ofs} {ps : List V}, OfsAt C H ps os → OfsAt C H' ps os
  | .nil, ps, h => by
    unfold OfsAt at h ⊢
    exact h
  | .cons c s m op ns r os, ps, h => by
    unfold OfsAt at h ⊢
    obtain ⟨o, u, b, qs, h1, h2, h3, h4, h5⟩ := h
    exact ⟨o, u, b, qs, h1, e _ _ h2, e _ _ h3, PrAt.ex e h4, OfsAt.ex e h5⟩
end
/-- whatever the process: its instance -/
theorem PrAt.ins {C : Addr} {H : Hp} {p : Pr} {a : Addr} (h : PrAt C H a p) : ∃ t ps, InsAt C H a p.kind t p.depth p.size ∧ H t = some (.tup ps) := by
  cases p with
  | choice os =>
    unfold PrAt at h
    obtain ⟨t, ps, h1, h2, _⟩ := h
    exact ⟨t, ps, by unfold Pr.kind Pr.depth Pr.size; exact h1, h2⟩
  | new n k r =>
    unfold PrAt at h
    obtain ⟨t, b, h1, h2, _⟩ := h
    exact ⟨t, _, by unfold Pr.kind Pr.depth Pr.size; exact h1, h2⟩
  | cond l r y n =>
    unfold PrAt at h
    obtain ⟨t, b, c, h1, h2, _⟩ := h
    exact ⟨t, _, by unfold Pr.kind Pr.depth Pr.size; exact h1, h2⟩
  | call n ops =>
    unfold PrAt at h
    obtain ⟨t, u, h1, h2, _⟩ := h
    exact ⟨t, _, by unfold Pr.kind Pr.depth Pr.size; exact h1, h2⟩
end Fs

set_option Elab.async false
set_option linter.all false
set_option maxRecDepth 100000
set_option maxHeartbeats 2000000
/-! further Ev lemmas -/
namespace FsE
open PySem L2 Evl
section
variable {K : PySem.W.Frag} {σ : L2.St} {H : Hp} {ta tb tc te : TE} {x y z : V}
theorem ev_chain {r r' : R2} {a b : Bool} (ha : Ev ta σ H x) (hb : Ev tb σ H y) (h1 : RV r x y H (.bl a)) (hc : a = true → Ev tc σ H z) (h2 : a = true → RV r' y z H (.bl b)) : Ev (tChain r r' ta tb tc) σ H (.bl (a && b)) := fun H1 e Q q =>
  ha H1 e _ fun H2 e2 => hb H2 (e.trans e2) _ fun H3 e3 => h1 H3 ((e.trans e2).trans e3) _ fun H4 e4 => ⟨a, rfl, by
    cases a with
    | true =>
      show tc σ H4 _
      exact hc rfl H4 (((e.trans e2).trans e3).trans e4) _ fun H5 e5 => h2 rfl H5 ((((e.trans e2).trans e3).trans e4).trans e5) Q fun H6 e6 => q H6 ((((e2.trans e3).trans e4).trans e5).trans e6)
    | false =>
      show Q (.bl false) H4
      exact q H4 ((e2.trans e3).trans e4)⟩
theorem rc_isi {t T : String} {b : Bool} (ht : ∀ H1, Ex H H1 → TyX K H1 x (.type t)) (hk : kitB t T = some b) : RC (rIsi K) [x, .ty T] H (.bl b) := fun H1 e Q q =>
  ⟨x, .ty T, .type t, .type T, b, rfl, .ty T, ht H1 e, kit_ty hk, q H1 (Ex.refl H1)⟩
theorem rc_isStr {z : Str} {T : String} {b : Bool} (hk : kitB "str" T = some b) : RC (rIsi K) [.str z, .ty T] H (.bl b) := rc_isi (fun _ _ => .base (.str z)) hk
theorem rc_isInt {i : Int} {T : String} {b : Bool} (hk : kitB "int" T = some b) : RC (rIsi K) [.int i, .ty T] H (.bl b) := rc_isi (fun _ _ => .base (.int i)) hk
/-- len of a text -/
theorem rc_lenS {z : Str} (hz : z.length ≤ sizeLine) : RC (fun xs H Q => ∃ a, xs = [.str a] ∧ a.length ≤ sizeLine ∧ Q (.int (a.length : Nat)) H) [.str z] H (.int (z.length : Nat)) := fun H1 _ _ q => ⟨z, rfl, hz, q H1 (Ex.refl H1)⟩
theorem rv_inSign {c : Nat} {z : Str} : RV (fun x y H Q => ∃ (c : Nat) (z : Str), x = .str ⟨#[c]⟩ ∧ y = .str z ∧ Q (.bl (decide (c ∈ z.cps.toList))) H) (.str ⟨#[c]⟩) (.str z) H (.bl (decide (c ∈ z.cps.toList))) := fun H1 _ _ q => ⟨c, z, rfl, rfl, q H1 (Ex.refl H1)⟩
theorem rv_niSign {c : Nat} {z : Str} : RV (fun x y H Q => ∃ (c : Nat) (z : Str), x = .str ⟨#[c]⟩ ∧ y = .str z ∧ Q (.bl (!decide (c ∈ z.cps.toList))) H) (.str ⟨#[c]⟩) (.str z) H (.bl (!decide (c ∈ z.cps.toList))) := fun H1 _ _ q => ⟨c, z, rfl, rfl, q H1 (Ex.refl H1)⟩
/-- a comprehension over a text -/
theorem el_lcS {z : Str} {tl : TE} {j : Nat} {vs : List Nat} {t : TT} (f : Nat → Bool) (v : Nat → V) (h : Ev tl σ H (.str z)) (hz : z.cps.size ≤ 40000) (hw : ∀ x, wipe ((wipe σ vs).set j (some x)) vs = wipe σ vs)
    (ht : ∀ (i : Nat) (c : Nat) H1, Ex H H1 → z.cps[i]? = some c → EvT t ((wipe σ vs).set j (some (.str ⟨#[c]⟩))) H1 (f i)) (he : ∀ (i : Nat) (c : Nat) H1, Ex H H1 → z.cps[i]? = some c → f i = true → Ev te ((wipe σ vs).set j (some (.str ⟨#[c]⟩))) H1 (v i)) :
    EvL (tLc (iStr tl) (gName j) t te vs) σ H (given z.cps.size f v) := fun H0 e Q q => h H0 e _ fun H1 e1 => ⟨z, rfl, fun Dl hD =>
  lc_it walk_str (Cw H1 f v Dl) ⟨hD, Ex.new hD, upd_same⟩ (fun _ _ _ _ => trivial) (fun i x H' H2 hi p y => by
    obtain ⟨rfl, c, hc, rfl⟩ := y
    exact ⟨hw _, cw_turn p (by omega) (ht i c H1 (e.trans e1) hc) (fun hf => he i c H1 (e.trans e1) hc hf)⟩)
    (fun H' p => q Dl H' (fresh_back e1 p.1) (e1.trans p.2.1) p.2.2)⟩
/-- all of a new list of bools -/
theorem ev_all {bs : List Bool} (h : EvL te σ H (bs.map V.bl)) : Ev (tCB (rAll K) (tCons te tNil)) σ H (.bl (bs.all id)) := fun H1 e Q q =>
  h H1 e _ fun p H2 _ e2 hp => ⟨p, bs, rfl, sq_of hp, q H2 e2⟩
/-- given, no test -/
theorem given_all {n : Nat} {v : Nat → V} : given n (fun _ => true) v = (List.range n).map v := by
  unfold given
  rw [List.filter_eq_self.mpr (fun _ _ => rfl)]
theorem et_nil : EvT tYes σ H true := fun H1 _ _ q => q H1 (Ex.refl H1)
theorem range_map {α : Type} (xs : List α) (d : α) (v : α → V) : (List.range xs.length).map (fun i => v (xs.getD i d)) = xs.map v := by
  refine List.ext_getElem? fun i => ?_
  rw [List.getElem?_map, List.getElem?_map]
  by_cases hi : i < xs.length
  · rw [List.getElem?_range hi, List.getElem?_eq_getElem hi]
    show some (v (xs.getD i d)) = some (v xs[i])
    rw [List.getD_eq_getElem?_getD, List.getElem?_eq_getElem hi]
    rfl
  · rw [List.getElem?_eq_none (by rw [List.length_range]; omega), List.getElem?_eq_none (by omega)]
    rfl
/-- [e for c in text] -/
theorem el_lcSm {z : Str} {tl : TE} {j : Nat} {vs : List Nat} (v : Nat → V) (h : Ev tl σ H (.str z)) (hz : z.length ≤ 40000) (hw : ∀ x, wipe ((wipe σ vs).set j (some x)) vs = wipe σ vs)
    (he : ∀ (c : Nat) H1, Ex H H1 → c ∈ z.cps.toList → Ev te ((wipe σ vs).set j (some (.str ⟨#[c]⟩))) H1 (v c)) : EvL (tLc (iStr tl) (gName j) tYes te vs) σ H (z.cps.toList.map v) := by
  have g := el_lcS (te := te) (j := j) (vs := vs) (t := tYes) (fun _ => true) (fun i => v (z.cps.toList.getD i 0)) h hz hw (fun _ _ _ _ _ => et_nil) (fun i c H3 e hc _ => by
    have e1 : z.cps.toList.getD i 0 = c := by
      rw [List.getD_eq_getElem?_getD, Array.getElem?_toList, hc]
      rfl
    rw [e1]
    exact he c H3 e (by rw [List.mem_iff_getElem?]; exact ⟨i, by rw [Array.getElem?_toList, hc]⟩))
  rw [given_all] at g
  have e := range_map z.cps.toList 0 v
  rw [Array.length_toList] at e
  rw [e] at g
  exact g
/-- [e for x in list] -/
theorem el_lcLm {a : Addr} {xs : List V} {tl : TE} {j : Nat} {vs : List Nat} (v : V → V) (h : Ev tl σ H (.ref a)) (hx : SqL K H a xs) (hz : xs.length ≤ 40000) (hw : ∀ x, wipe ((wipe σ vs).set j (some x)) vs = wipe σ vs)
    (he : ∀ (x : V) H1, Ex H H1 → x ∈ xs → Ev te ((wipe σ vs).set j (some x)) H1 (v x)) : EvL (tLc (iList K tl) (gName j) tYes te vs) σ H (xs.map v) := by
  have g := el_lcL (K := K) (te := te) (j := j) (vs := vs) (t := tYes) (fun _ => true) (fun i => v (xs.getD i .non)) h hx hz hw (fun _ _ _ _ _ => et_nil) (fun i x H3 e hc _ => by
    have e1 : xs.getD i .non = x := by
      rw [List.getD_eq_getElem?_getD, hc]
      rfl
    rw [e1]
    exact he x H3 e (List.mem_iff_getElem?.mpr ⟨i, hc⟩))
  rw [given_all, range_map xs .non v] at g
  exact g
/-- [e for x in (a new list)] -/
theorem el_lcNLm {xs : List V} {tl : TE} {j : Nat} {vs : List Nat} (v : V → V) (h : EvL tl σ H xs) (hz : xs.length ≤ 40000) (hw : ∀ x, wipe ((wipe σ vs).set j (some x)) vs = wipe σ vs)
    (he : ∀ (x : V) H1, Ex H H1 → x ∈ xs → Ev te ((wipe σ vs).set j (some x)) H1 (v x)) : EvL (tLc (iList K tl) (gName j) tYes te vs) σ H (xs.map v) := by
  have g := el_lcNL (K := K) (te := te) (j := j) (vs := vs) (t := tYes) (fun _ => true) (fun i => v (xs.getD i .non)) h hz hw (fun _ _ _ _ _ => et_nil) (fun i x H3 e hc _ => by
    have e1 : xs.getD i .non = x := by
      rw [List.getD_eq_getElem?_getD, hc]
      rfl
    rw [e1]
    exact he x H3 e (List.mem_iff_getElem?.mpr ⟨i, hc⟩))
  rw [given_all, range_map xs .non v] at g
  exact g
/-- [e for k in range(n)] -/
theorem el_lcRm {tn : TA} {j : Nat} {vs : List Nat} {n : Int} (v : Nat → V) (h : EvA tn σ H [.int n]) (hn : 0 ≤ n ∧ n ≤ 40000) (hw : ∀ x, wipe ((wipe σ vs).set j (some x)) vs = wipe σ vs)
    (he : ∀ (i : Nat) H1, Ex H H1 → (i : Int) < n → Ev te ((wipe σ vs).set j (some (.int (i : Int)))) H1 (v i)) : EvL (tLc (iRng1 tn) (gName j) tYes te vs) σ H ((List.range n.toNat).map v) := by
  have g := el_lcR1 (te := te) (j := j) (vs := vs) (t := tYes) (fun _ => true) v h hn hw (fun _ _ _ _ => et_nil) (fun i H1 e hi _ => he i H1 e hi)
  rw [given_all] at g
  exact g
/-- a comprehension over a tuple -/
theorem el_lcT {a : Addr} {xs : List V} {tl : TE} {j : Nat} {vs : List Nat} {t : TT} (f : Nat → Bool) (v : Nat → V) (h : Ev tl σ H (.ref a)) (hx : SqT K H a xs) (hz : xs.length ≤ 40000) (hw : ∀ x, wipe ((wipe σ vs).set j (some x)) vs = wipe σ vs)
    (ht : ∀ (i : Nat) (x : V) H1, Ex H H1 → xs[i]? = some x → EvT t ((wipe σ vs).set j (some x)) H1 (f i)) (he : ∀ (i : Nat) (x : V) H1, Ex H H1 → xs[i]? = some x → f i = true → Ev te ((wipe σ vs).set j (some x)) H1 (v i)) :
    EvL (tLc (iTup K tl) (gName j) t te vs) σ H (given xs.length f v) := fun H0 e Q q => h H0 e _ fun H1 e1 => ⟨a, rfl, ⟨xs, ex_t (e.trans e1) hx⟩, fun Dl hD =>
  lc_tup (xs := xs) (Cw H1 f v Dl) ⟨hD, Ex.new hD, upd_same⟩ (fun i H' _ p => ex_t ((e.trans e1).trans p.2.1) hx) (fun i x H' hi p => ⟨hw x, cw_turn p (by have := (List.getElem?_eq_some_iff.mp hi).1; omega) (ht i x H1 (e.trans e1) hi) (fun hf => he i x H1 (e.trans e1) hi hf)⟩)
    (fun H' p => q Dl H' (fresh_back e1 p.1) (e1.trans p.2.1) p.2.2)⟩
theorem ev_fld {a C dx : Addr} {fs : List (Str × V)} {f : Str} {v : V} (h : Ev ta σ H (.ref a)) (hi : H a = some (.ins C dx fs)) (cl : Cls K C) (n : NoAttr K C f) (l : fs.lookup f = some v) : Ev (tFld K ta f) σ H v := fun H1 e Q q =>
  h H1 e _ fun H2 e2 => ⟨a, C, dx, fs, v, rfl, (e.trans e2) _ _ hi, cl, n, l, q H2 e2⟩
theorem ev_sum {ns : List Int} (h : EvL te σ H (ns.map V.int)) : Ev (tCB (rSum K) (tCons te tNil)) σ H (.int ns.sum) := fun H1 e Q q =>
  h H1 e _ fun p H2 _ e2 hp => ⟨p, ns, rfl, sq_of hp, q H2 e2⟩
theorem ev_maxD {ns : List Int} {d : Int} (h : EvL te σ H (ns.map V.int)) : Ev (tCKw (FsR.rMaxD K) (tCons te tNil) (tCons (tC (.int d)) tNil)) σ H (.int (FsR.maxDef d ns)) := fun H1 e Q q =>
  h H1 e _ fun p H2 _ e2 hp => ⟨p, ns, d, rfl, rfl, sq_of hp, q H2 e2⟩
theorem ev_lenT {a : Addr} {xs : List V} (h : Ev ta σ H (.ref a)) (hx : SqT K H a xs) : Ev (tCB (fun xs H Q => ∃ p ys, xs = [V.ref p] ∧ (SqL K H p ys ∨ SqT K H p ys) ∧ Q (.int ys.length) H) (tCons ta tNil)) σ H (.int (xs.length : Int)) := fun H1 e Q q =>
  h H1 e _ fun H2 e2 => ⟨a, xs, rfl, .inr (ex_t (e.trans e2) hx), q H2 e2⟩
theorem rc_isiOwn {C : Addr} {t : Value} {b : Bool} (ht : ∀ H1, Ex H H1 → TyX K H1 x t) (hk : PySem.W.kitOne K t (.ref C) = some b) : RC (rIsi K) [x, .ref C] H (.bl b) := fun H1 e Q q =>
  ⟨x, .ref C, t, .ref C, b, rfl, .own C, ht H1 e, hk, q H1 (Ex.refl H1)⟩
theorem range_ys {xs ys : List V} (hl : ys.length = xs.length) : (List.range xs.length).map (fun i => ys.getD i .non) = ys := by
  have e := range_map ys .non (fun y => y)
  rw [List.map_id', hl] at e
  exact e
/-- comprehensions, the result told by its items -/
theorem el_lcNLy {xs ys : List V} {tl : TE} {j : Nat} {vs : List Nat} (h : EvL tl σ H xs) (hz : xs.length ≤ 40000) (hw : ∀ x, wipe ((wipe σ vs).set j (some x)) vs = wipe σ vs) (hl : ys.length = xs.length)
    (he : ∀ (i : Nat) (x y : V) H1, Ex H H1 → xs[i]? = some x → ys[i]? = some y → Ev te ((wipe σ vs).set j (some x)) H1 y) : EvL (tLc (iList K tl) (gName j) tYes te vs) σ H ys := by
  have g := el_lcNL (K := K) (te := te) (j := j) (vs := vs) (t := tYes) (fun _ => true) (fun i => ys.getD i .non) h hz hw (fun _ _ _ _ _ => et_nil) (fun i x H3 e hc _ => by
    have hi := (List.getElem?_eq_some_iff.mp hc).1
    have hy : ys[i]? = some (ys.getD i .non) := by rw [List.getD_eq_getElem?_getD, List.getElem?_eq_getElem (by omega)]; rfl
    exact he i x _ H3 e hc hy)
  rw [given_all, range_ys hl] at g
  exact g
theorem el_lcLy {a : Addr} {xs ys : List V} {tl : TE} {j : Nat} {vs : List Nat} (h : Ev tl σ H (.ref a)) (hx : SqL K H a xs) (hz : xs.length ≤ 40000) (hw : ∀ x, wipe ((wipe σ vs).set j (some x)) vs = wipe σ vs) (hl : ys.length = xs.length)
    (he : ∀ (i : Nat) (x y : V) H1, Ex H H1 → xs[i]? = some x → ys[i]? = some y → Ev te ((wipe σ vs).set j (some x)) H1 y) : EvL (tLc (iList K tl) (gName j) tYes te vs) σ H ys := by
  have g := el_lcL (K := K) (te := te) (j := j) (vs := vs) (t := tYes) (fun _ => true) (fun i => ys.getD i .non) h hx hz hw (fun _ _ _ _ _ => et_nil) (fun i x H3 e hc _ => by
    have hi := (List.getElem?_eq_some_iff.mp hc).1
    have hy : ys[i]? = some (ys.getD i .non) := by rw [List.getD_eq_getElem?_getD, List.getElem?_eq_getElem (by omega)]; rfl
    exact he i x _ H3 e hc hy)
  rw [given_all, range_ys hl] at g
  exact g
theorem el_lcTy {a : Addr} {xs ys : List V} {tl : TE} {j : Nat} {vs : List Nat} (h : Ev tl σ H (.ref a)) (hx : SqT K H a xs) (hz : xs.length ≤ 40000) (hw : ∀ x, wipe ((wipe σ vs).set j (some x)) vs = wipe σ vs) (hl : ys.length = xs.length)
    (he : ∀ (i : Nat) (x y : V) H1, Ex H H1 → xs[i]? = some x → ys[i]? = some y → Ev te ((wipe σ vs).set j (some x)) H1 y) : EvL (tLc (iTup K tl) (gName j) tYes te vs) σ H ys := by
  have g := el_lcT (K := K) (te := te) (j := j) (vs := vs) (t := tYes) (fun _ => true) (fun i => ys.getD i .non) h hx hz hw (fun _ _ _ _ _ => et_nil) (fun i x H3 e hc _ => by
    have hi := (List.getElem?_eq_some_iff.mp hc).1
    have hy : ys[i]? = some (ys.getD i .non) := by rw [List.getD_eq_getElem?_getD, List.getElem?_eq_getElem (by omega)]; rfl
    exact he i x _ H3 e hc hy)
  rw [given_all, range_ys hl] at g
  exact g
end
end FsE

set_option Elab.async false
set_option linter.all false
set_option maxRecDepth 100000
set_option maxHeartbeats 2000000
namespace FsC
open PySem L2 Evl ClX FsR
/-- a def of the module that may be called by its name -/
structure CalX (P : Program) (w : World) (K : PySem.W.Frag) (mg : Str → Option Value) (base : Heap) (CX : CXT) (k : Nat) (x : Str) (sp : Sp) : Prop where
  ex : ∃ (f : Addr) (fd : FuncData) (ps : List Str), FnOk P w K mg base CX k f fd ps sp ∧ mg x = some (.ref f) ∧ PySem.W.keepIn K (.ref f) = true ∧ Binds K fd ps []
/-- C.m, a staticmethod of the class at C -/
structure StaX (P : Program) (w : World) (K : PySem.W.Frag) (mg : Str → Option Value) (base : Heap) (CX : CXT) (k : Nat) (C : Addr) (m : Str) (sp : Sp) : Prop where
  ex : ∃ (p f : Addr) (mc : Value) (fd : FuncData) (ps : List Str), CRead K C mc ∧ SMet K C mc m p f ∧ FnOk P w K mg base CX k f fd ps sp ∧ Binds K fd ps []
/-- C(..): a class that is made by its name -/
structure MakX (P : Program) (w : World) (K : PySem.W.Frag) (mg : Str → Option Value) (base : Heap) (CX : CXT) (k : Nat) (x : Str) (C : Addr) (sp : Sp) : Prop where
  ex : ∃ (f : Addr) (fd : FuncData) (ps : List Str), Mk K C f ∧ FnOk P w K mg base CX k f fd ps sp ∧ mg x = some (.ref C) ∧ Binds K fd ps []
section
variable {X : Cx} {CX : CXT} {k j : Nat} {C : Addr} {x m : Str} {sp : Sp} {E : L2.St → XK} {p pos apos : Pos} {e o : Expr} {es : List Expr} {ta : TE} {t : TA}
theorem pe_cx (c : CalX X.prog X.w X.K X.mg X.base CX k x sp) (hr : Room j X.A) (hk : k ≤ j) (hg : Gl X x) (hx : ∀ σ, PassesAt CX X σ (E σ)) (ha : PA X (e :: es) t)
    (hdb : (x == ("__debug__" : Str)) = false := by decide) (he : starEach (e :: es) X.env = (false, eval e X.env) :: starEach es X.env := by rfl) (hpl : (backTo pos (starEach es X.env)).any (·.1) = false := by rfl) :
    PE X (.Call (.Name x p) (e :: es) [] pos) (tCallS sp E t) := by
  obtain ⟨f, fd, ps, F, hm, kp, b⟩ := c.ex
  exact pe_callS F (hr.mono hk) hg hm kp b hx ha hdb he hpl
theorem pe_sx {pl : Sem Bool} (c : StaX X.prog X.w X.K X.mg X.base CX k C m sp) (hr : Room j X.A) (hk : k ≤ j) (ho : PE X o ta) (hx : ∀ σ, PassesAt CX X σ (E σ)) (ha : PA X (e :: es) t)
    (hst : starEach (e :: es) X.env = (false, eval e X.env) :: starEach es X.env := by rfl) (hpl : (backTo pos (starEach es X.env)).any (·.1) = false := by rfl)
    (ht : eval (.Call (.Attribute o m apos) (e :: es) [] pos) X.env = (do
      let ov ← eval o X.env
      standAt apos.atName
      let (f, first) ← holding [ov] (getMethod ov m pl)
      callWith pos f first (backTo pos (starEach (e :: es) X.env)) (backToKw pos (keywordEach [] X.env))) := by rfl) :
    PE X (.Call (.Attribute o m apos) (e :: es) [] pos) (tStat C sp E ta t) := by
  obtain ⟨p, f, mc, fd, ps, r, s, F, b⟩ := c.ex
  exact pe_stat (pl := pl) ho r s F (hr.mono hk) b hx ha hst hpl ht
theorem pe_sx0 {pl : Sem Bool} (c : StaX X.prog X.w X.K X.mg X.base CX k C m sp) (hr : Room j X.A) (hk : k ≤ j) (ho : PE X o ta) (hx : ∀ σ, PassesAt CX X σ (E σ))
    (ht : eval (.Call (.Attribute o m apos) [] [] pos) X.env = (do
      let ov ← eval o X.env
      standAt apos.atName
      let (f, first) ← holding [ov] (getMethod ov m pl)
      callWith pos f first (backTo pos (starEach [] X.env)) (backToKw pos (keywordEach [] X.env))) := by rfl) :
    PE X (.Call (.Attribute o m apos) [] [] pos) (tStat C sp E ta tNil) := by
  obtain ⟨p, f, mc, fd, ps, r, s, F, b⟩ := c.ex
  exact pe_stat0 (pl := pl) ho r s F (hr.mono hk) b hx ht
theorem pe_mx {E : XK} (c : MakX X.prog X.w X.K X.mg X.base CX k x C sp) (hr : Room j X.A) (hk : k + 1 ≤ j) (hg : Gl X x) (hx : Passes CX X E) (ha : PA X (e :: es) t)
    (hdb : (x == ("__debug__" : Str)) = false := by decide) (he : starEach (e :: es) X.env = (false, eval e X.env) :: starEach es X.env := by rfl) (hpl : (backTo pos (starEach es X.env)).any (·.1) = false := by rfl) :
    PE X (.Call (.Name x p) (e :: es) [] pos) (tMake C sp [] E t) := by
  obtain ⟨f, fd, ps, M, F, hm, b⟩ := c.ex
  exact pe_make M F (hr.mono hk) hg hm b .nil hx ha hdb he hpl
theorem at0 {X : Cx} {E : L2.St → XK} : ∀ σ, PassesAt CX0 X σ (E σ) := fun _ _ _ _ _ _ _ h => h.elim
/-- what a call within a def that may raise lets out -/
theorem atX {P : Program} {w : World} {X : Cx} {E : XK} (h : Passes (L2.CX P w) X E) : ∀ σ, PassesAt (L2.CX P w) X σ ((fun _ => E) σ) := fun σ => passesAt_of h σ
end
section
variable {σ : L2.St} {H : Hp} {z : V} {sp : Sp} {ta : TA} {vs : List V} {E : L2.St → XK}
theorem ev_cx (h : EvA ta σ H vs) (hs : SpV sp vs H z) : Ev (tCallS sp E ta) σ H z := fun H1 e Q q =>
  h H1 e _ fun H2 e2 => hs H2 (e.trans e2) Q (fun H3 e3 => q H3 (e2.trans e3)) (E σ)
theorem ev_sx {C : Addr} {to : TE} (ho : Ev to σ H (.ref C)) (h : EvA ta σ H vs) (hs : SpV sp vs H z) : Ev (tStat C sp E to ta) σ H z := fun H1 e Q q =>
  ho H1 e _ fun H2 e2 => ⟨rfl, h H2 (e.trans e2) _ fun H3 e3 => hs H3 ((e.trans e2).trans e3) Q (fun H4 e4 => q H4 ((e2.trans e3).trans e4)) (E σ)⟩
theorem el_cx {xs : List V} (h : EvA ta σ H vs) (hs : SpL sp vs H xs) : EvL (tCallS sp E ta) σ H xs := fun H1 e Q q =>
  h H1 e _ fun H2 e2 => hs H2 (e.trans e2) Q (fun p H3 hp e3 h3 => q p H3 (fresh_back e2 hp) (e2.trans e3) h3) (E σ)
end
end FsC

set_option Elab.async false
set_option linter.all false
set_option maxRecDepth 100000
set_option maxHeartbeats 2000000
namespace Fs
open PySem L2 Evl FsE FsC FsR
/-- the parts of a process, as its tuple holds them -/
def PartsAt (C : Addr) (H : Hp) (ps : List V) : Pr → Prop
  | .choice os => OfsAt C H ps os
  | .new n k r => ∃ b, ps = [.str n, .int k, .ref b] ∧ PrAt C H b r
  | .cond l r y n => ∃ b c, ps = [l.v, r.v, .ref b, .ref c] ∧ PrAt C H b y ∧ PrAt C H c n
  | .call n ops => ∃ u, ps = [.str n, .ref u] ∧ H u = some (.tup (ops.map Opd.v))
theorem PartsAt.ex {C : Addr} {H H' : Hp} {ps : List V} {p : Pr} (e : Ex H H') (h : PartsAt C H ps p) : PartsAt C H' ps p := by
  cases p with
  | choice os => exact OfsAt.ex e h
  | new n k r =>
    obtain ⟨b, h1, h2⟩ := h
    exact ⟨b, h1, h2.ex e⟩
  | cond l r y n =>
    obtain ⟨b, c, h1, h2, h3⟩ := h
    exact ⟨b, c, h1, h2.ex e, h3.ex e⟩
  | call n ops =>
    obtain ⟨u, h1, h2⟩ := h
    exact ⟨u, h1, e _ _ h2⟩
theorem PrAt.mk {C : Addr} {H : Hp} {a t : Addr} {ps : List V} {p : Pr} (h1 : InsAt C H a p.kind t p.depth p.size) (h2 : H t = some (.tup ps)) (h3 : PartsAt C H ps p) : PrAt C H a p := by
  cases p with
  | choice os =>
    unfold PrAt
    unfold Pr.kind Pr.depth Pr.size at h1
    exact ⟨t, ps, h1, h2, h3⟩
  | new n k r =>
    unfold PrAt
    unfold Pr.kind Pr.depth Pr.size at h1
    obtain ⟨b, rfl, h4⟩ := h3
    exact ⟨t, b, h1, h2, h4⟩
  | cond l r y n =>
    unfold PrAt
    unfold Pr.kind Pr.depth Pr.size at h1
    obtain ⟨b, c, rfl, h4, h5⟩ := h3
    exact ⟨t, b, c, h1, h2, h4, h5⟩
  | call n ops =>
    unfold PrAt
    unfold Pr.kind Pr.depth Pr.size at h1
    obtain ⟨u, rfl, h4⟩ := h3
    exact ⟨t, u, h1, h2, h4⟩
theorem PrAt.out {C : Addr} {H : Hp} {a : Addr} {p : Pr} (h : PrAt C H a p) : ∃ t ps, InsAt C H a p.kind t p.depth p.size ∧ H t = some (.tup ps) ∧ PartsAt C H ps p := by
  cases p with
  | choice os =>
    unfold PrAt at h
    obtain ⟨t, ps, h1, h2, h3⟩ := h
    exact ⟨t, ps, by unfold Pr.kind Pr.depth Pr.size; exact h1, h2, h3⟩
  | new n k r =>
    unfold PrAt at h
    obtain ⟨t, b, h1, h2, h3⟩ := h
    exact ⟨t, _, by unfold Pr.kind Pr.depth Pr.size; exact h1, h2, b, rfl, h3⟩
  | cond l r y n =>
    unfold PrAt at h
    obtain ⟨t, b, c, h1, h2, h3, h4⟩ := h
    exact ⟨t, _, by unfold Pr.kind Pr.depth Pr.size; exact h1, h2, b, c, rfl, h3, h4⟩
  | call n ops =>
    unfold PrAt at h
    obtain ⟨t, u, h1, h2, h3⟩ := h
    exact ⟨t, _, by unfold Pr.kind Pr.depth Pr.size; exact h1, h2, u, rfl, h3⟩
/-! ### what is contained directly -/
def Ofs.rests : Ofs → List Pr
  | .nil => []
  | .cons _ _ _ _ _ r os => r :: os.rests
def Pr.inner : Pr → List Pr
  | .choice os => os.rests
  | .new _ _ r => [r]
  | .cond _ _ y n => [y, n]
  | .call _ _ => []
/-- a list of processes, by their addresses -/
def InnAt (C : Addr) (H : Hp) : List V → List Pr → Prop
  | [], [] => True
  | x :: xs, p :: ps => (∃ a, x = .ref a ∧ PrAt C H a p) ∧ InnAt C H xs ps
  | _, _ => False
theorem InnAt.ex {C : Addr} {H H' : Hp} (e : Ex H H') : ∀ {xs : List V} {ps : List Pr}, InnAt C H xs ps → InnAt C H' xs ps
  | [], [], _ => True.intro
  | x :: xs, p :: ps, ⟨⟨a, h1, h2⟩, h3⟩ => ⟨⟨a, h1, h2.ex e⟩, InnAt.ex e h3⟩
  | [], _ :: _, h => h.elim
  | _ :: _, [], h => h.elim
theorem InnAt.get {C : Addr} {H : Hp} : ∀ {xs : List V} {ps : List Pr} {x : V}, InnAt C H xs ps → x ∈ xs → ∃ a p, x = .ref a ∧ PrAt C H a p ∧ p ∈ ps
  | [], _, _, _, hx => nomatch hx
  | y :: xs, [], _, h, _ => h.elim
  | y :: xs, p :: ps, x, ⟨⟨a, h1, h2⟩, h3⟩, hx => by
    rcases List.mem_cons.mp hx with rfl | hx
    · exact ⟨a, p, h1, h2, List.mem_cons_self⟩
    · obtain ⟨b, q, k1, k2, k3⟩ := InnAt.get h3 hx
      exact ⟨b, q, k1, k2, List.mem_cons_of_mem _ k3⟩
theorem InnAt.length {C : Addr} {H : Hp} : ∀ {xs : List V} {ps : List Pr}, InnAt C H xs ps → xs.length = ps.length
  | [], [], _ => rfl
  | x :: xs, p :: ps, ⟨_, h⟩ => congrArg (· + 1) (InnAt.length h)
  | [], _ :: _, h => h.elim
  | _ :: _, [], h => h.elim
theorem Ofs.rests_len : ∀ os : Ofs, os.rests.length = os.len
  | .nil => rfl
  | .cons _ _ _ _ _ r os => congrArg (· + 1) (Ofs.rests_len os)
/-- the greatest depth, the sum of the sizes -/
theorem Ofs.sum_eq : ∀ os : Ofs, os.sum = (os.rests.map Pr.size).sum
  | .nil => rfl
  | .cons _ _ _ _ _ r os => by
    unfold Ofs.sum Ofs.rests
    rw [List.map_cons, List.sum_cons, Ofs.sum_eq os]
mutual
theorem Pr.depth_pos : ∀ p : Pr, 1 ≤ p.depth
  | .choice os => by
    unfold Pr.depth
    have := Ofs.depth_nn os
    omega
  | .new _ _ r => by
    unfold Pr.depth
    have := Pr.depth_pos r
    omega
  | .cond _ _ y n => by
    unfold Pr.depth
    have := Pr.depth_pos y
    have := Pr.depth_pos n
    omega
  | .call _ _ => by
    unfold Pr.depth
    omega
theorem Ofs.depth_nn : ∀ os : Ofs, 0 ≤ os.depth
  | .nil => by
    unfold Ofs.depth
    omega
  | .cons _ _ _ _ _ r os => by
    unfold Ofs.depth
    have := Pr.depth_pos r
    omega
end
theorem maxFrom_ge : ∀ (ys : List Int) (y : Int), maxFrom y ys = max y (maxFrom 0 ys) ∨ (y < 0)
  | [], y => by
    unfold maxFrom
    simp only [List.foldl_nil]
    omega
  | z :: zs, y => by
    have h1 := maxFrom_ge zs (max y z)
    have h2 := maxFrom_ge zs (max 0 z)
    unfold maxFrom at *
    simp only [List.foldl_cons]
    omega
theorem Ofs.depth_eq : ∀ os : Ofs, maxDef 0 (os.rests.map Pr.depth) = os.depth
  | .nil => rfl
  | .cons _ _ _ _ _ r os => by
    unfold Ofs.rests Ofs.depth
    rw [List.map_cons]
    show maxFrom r.depth (os.rests.map Pr.depth) = max r.depth os.depth
    have ih := Ofs.depth_eq os
    have hr := Pr.depth_pos r
    cases hr2 : os.rests.map Pr.depth with
    | nil =>
      rw [hr2] at ih
      have e0 : (0 : Int) = os.depth := ih
      unfold maxFrom
      simp only [List.foldl_nil]
      omega
    | cons y ys =>
      rw [hr2] at ih
      have e0 : maxFrom y ys = os.depth := ih
      have hy : 1 ≤ y := by
        have : y ∈ os.rests.map Pr.depth := by rw [hr2]; exact List.mem_cons_self
        obtain ⟨q, _, rfl⟩ := List.mem_map.mp this
        exact Pr.depth_pos q
      have h1 := maxFrom_ge ys y
      have h2 := maxFrom_ge ys (max r.depth y)
      show maxFrom (max r.depth y) ys = _
      omega
theorem Pr.depth_eq (p : Pr) : 1 + maxDef 0 (p.inner.map Pr.depth) = p.depth := by
  cases p with
  | choice os =>
    unfold Pr.inner Pr.depth
    rw [Ofs.depth_eq]
  | new n k r =>
    unfold Pr.depth
    rfl
  | cond l r y n =>
    unfold Pr.depth
    rfl
  | call n ops =>
    unfold Pr.depth
    rfl
def Pr.own : Pr → Int
  | .choice os => max 1 (os.len : Int)
  | _ => 1
theorem Pr.size_eq (p : Pr) : p.own + (p.inner.map Pr.size).sum = p.size := by
  cases p with
  | choice os =>
    unfold Pr.inner Pr.size Pr.own
    rw [Ofs.sum_eq]
  | new n k r =>
    unfold Pr.size Pr.own Pr.inner
    simp
  | cond l r y n =>
    unfold Pr.size Pr.own Pr.inner
    simp
  | call n ops =>
    unfold Pr.size Pr.own Pr.inner
    simp
theorem OfsAt.len {C : Addr} {H : Hp} : ∀ {os : Ofs} {ps : List V}, OfsAt C H ps os → ps.length = os.len
  | .nil, ps, h => by
    unfold OfsAt at h
    rw [h]
    rfl
  | .cons c s m op ns r os, ps, h => by
    unfold OfsAt at h
    obtain ⟨o, u, b, qs, h1, _, _, _, h5⟩ := h
    rw [h1]
    exact congrArg (· + 1) (OfsAt.len h5)
/-- the rests of the offers -/
theorem OfsAt.rests {C : Addr} {H : Hp} : ∀ {os : Ofs} {ps : List V}, OfsAt C H ps os → ∃ rs : List V, rs.length = ps.length ∧ InnAt C H rs os.rests ∧
    ∀ (i : Nat) (x : V), ps[i]? = some x → ∃ (o : Addr) (c : Str) (s m : Int) (op : Opd) (u : Addr) (y : V), x = .ref o ∧ rs[i]? = some y ∧ H o = some (.tup [.str c, .int s, .int m, op.v, .ref u, y])
  | .nil, ps, h => by
    unfold OfsAt at h
    subst h
    exact ⟨[], rfl, True.intro, fun i x hx => by simp at hx⟩
  | .cons c s m op ns r os, ps, h => by
    unfold OfsAt at h
    obtain ⟨o, u, b, qs, rfl, h2, h3, h4, h5⟩ := h
    obtain ⟨rs, k1, k2, k3⟩ := OfsAt.rests h5
    refine ⟨.ref b :: rs, congrArg (· + 1) k1, ⟨⟨b, rfl, h4⟩, k2⟩, fun i x hx => ?_⟩
    cases i with
    | zero =>
      have e : V.ref o = x := by simpa using hx
      subst e
      exact ⟨o, c, s, m, op, u, .ref b, rfl, rfl, h2⟩
    | succ i =>
      obtain ⟨o', c', s', m', op', u', y', z1, z2, z3⟩ := k3 i x (by simpa using hx)
      exact ⟨o', c', s', m', op', u', y', z1, by simpa using z2, z3⟩
/-- rs: what a process with these parts contains directly -/
def InnOf (C : Addr) (H : Hp) (ps rs : List V) : Pr → Prop
  | .choice os => rs.length = ps.length ∧ InnAt C H rs os.rests ∧
    ∀ (i : Nat) (x : V), ps[i]? = some x → ∃ (o : Addr) (c : Str) (s m : Int) (op : Opd) (u : Addr) (y : V), x = .ref o ∧ rs[i]? = some y ∧ H o = some (.tup [.str c, .int s, .int m, op.v, .ref u, y])
  | .new n k r => ∃ b, ps = [.str n, .int k, .ref b] ∧ rs = [.ref b] ∧ PrAt C H b r
  | .cond l r y n => ∃ b c, ps = [l.v, r.v, .ref b, .ref c] ∧ rs = [.ref b, .ref c] ∧ PrAt C H b y ∧ PrAt C H c n
  | .call n ops => ∃ u, ps = [.str n, .ref u] ∧ rs = [] ∧ H u = some (.tup (ops.map Opd.v))
theorem InnOf.ex {C : Addr} {H H' : Hp} {ps rs : List V} {p : Pr} (e : Ex H H') (h : InnOf C H ps rs p) : InnOf C H' ps rs p := by
  cases p with
  | choice os =>
    obtain ⟨h1, h2, h3⟩ := h
    refine ⟨h1, h2.ex e, fun i x hx => ?_⟩
    obtain ⟨o, c, s, m, op, u, y, z1, z2, z3⟩ := h3 i x hx
    exact ⟨o, c, s, m, op, u, y, z1, z2, e _ _ z3⟩
  | new n k r =>
    obtain ⟨b, h1, h2, h3⟩ := h
    exact ⟨b, h1, h2, h3.ex e⟩
  | cond l r y n =>
    obtain ⟨b, c, h1, h2, h3, h4⟩ := h
    exact ⟨b, c, h1, h2, h3.ex e, h4.ex e⟩
  | call n ops =>
    obtain ⟨u, h1, h2, h3⟩ := h
    exact ⟨u, h1, h2, e _ _ h3⟩
theorem PartsAt.inn {C : Addr} {H : Hp} {ps : List V} {p : Pr} (h : PartsAt C H ps p) : ∃ rs, InnOf C H ps rs p := by
  cases p with
  | choice os =>
    obtain ⟨rs, h1, h2, h3⟩ := OfsAt.rests h
    exact ⟨rs, h1, h2, h3⟩
  | new n k r =>
    obtain ⟨b, h1, h2⟩ := h
    exact ⟨[.ref b], b, h1, rfl, h2⟩
  | cond l r y n =>
    obtain ⟨b, c, h1, h2, h3⟩ := h
    exact ⟨[.ref b, .ref c], b, c, h1, rfl, h2, h3⟩
  | call n ops =>
    obtain ⟨u, h1, h2⟩ := h
    exact ⟨[], u, h1, rfl, h2⟩
theorem InnOf.at {C : Addr} {H : Hp} {ps rs : List V} {p : Pr} (h : InnOf C H ps rs p) : InnAt C H rs p.inner := by
  cases p with
  | choice os => exact h.2.1
  | new n k r =>
    obtain ⟨b, _, rfl, h3⟩ := h
    exact ⟨⟨b, rfl, h3⟩, True.intro⟩
  | cond l r y n =>
    obtain ⟨b, c, _, rfl, h3, h4⟩ := h
    exact ⟨⟨b, rfl, h3⟩, ⟨c, rfl, h4⟩, True.intro⟩
  | call n ops =>
    obtain ⟨u, _, rfl, _⟩ := h
    exact True.intro
theorem InnAt.at_ {C : Addr} {H : Hp} : ∀ {xs : List V} {ps : List Pr} {i : Nat} {x : V}, InnAt C H xs ps → xs[i]? = some x → ∃ a p, x = .ref a ∧ PrAt C H a p ∧ ps[i]? = some p
  | [], _, _, _, _, hx => by simp at hx
  | y :: xs, [], _, _, h, _ => h.elim
  | y :: xs, p :: ps, 0, x, ⟨⟨a, h1, h2⟩, h3⟩, hx => by
    have e : y = x := by simpa using hx
    subst e
    exact ⟨a, p, h1, h2, rfl⟩
  | y :: xs, p :: ps, i + 1, x, ⟨_, h3⟩, hx => by
    obtain ⟨b, q, k1, k2, k3⟩ := InnAt.at_ (i := i) h3 (by simpa using hx)
    exact ⟨b, q, k1, k2, by simpa using k3⟩
end Fs

set_option Elab.async false
set_option linter.all false
set_option maxRecDepth 100000
set_option maxHeartbeats 4000000
/-! An own error over ValueError, by a class between: its __init__ calls super().__init__ with a fixed text, then stores its one argument as the field field. -/
namespace FsB
open PySem PySem.W PySem.Calls PyProof.Rows PySem.HandSPX
abbrev eS : Scope := { kind := .function, names := [(PySem.Str.ofString "self", .local), (PySem.Str.ofString "field", .local), (PySem.Str.ofString "__class__", .free), (PySem.Str.ofString "super", .globalImplicit)], isGenerator := false, isCoroutine := false, more := [] }
abbrev eA (p1 p2 : Pos) : Arguments := { posonlyargs := [], args := [{ arg := "self", annotation := none, pos := p1 }, { arg := "field", annotation := none, pos := p2 }], vararg := none, kwonlyargs := [], kw_defaults := [], kwarg := none, defaults := [] }
abbrev eB (msg : Expr) (p0 p1 p2 p3 p4 p5 p6 p7 p8 : Pos) : List Stmt := [.Expr (.Call (.Attribute (.Call (.Name "super" p0) [] [] p1) "__init__" p2) [msg] [] p3) p4, .Assign [.Attribute (.Name "self" p5) "field" p6] (.Name "field" p7) p8]
/-- the message -/
abbrev eM (z : Str) (q0 : Pos) : Expr := .Constant (.str z) 0 q0
abbrev mroVE : List Value := [.type "ValueError", .type "Exception", .type "BaseException", .type "object"]
/-- what the written part says of the class at C, and of its __init__, at fI -/
structure ErrTxt (prog : Program) (K : Frag) (mg : Str → Option Value) (x : Str) (C fI : Addr) : Prop where
  gC : mg x = some (.ref C)
  cls : ∃ nm q N bs bm sn sub ab col dd k0 k1 k2 k3 k5, K.lookup C = some (excClassObj nm q C N bs bm true sn sub ab col dd k0 k1 k2 k3 k5 "ValueError.__new__") ∧ refsVE bm = true
  ei : excInitIn K C mroVE "ValueError.__new__" = true
  sa : findIn K (.ref C) "__setattr__" = some (some (.builtin "object.__setattr__"))
  noN : findIn K (.ref C) "field" = some none
  iC : findIn K (.ref C) "__init__" = some (some (.ref fI))
  tC : typeIn K (.ref fI) = some (.type "function")
  kC : keepIn K (.ref C) = true
  exC : subIn K (.ref C) (.type "BaseException") = some true
  veC : subIn K (.ref C) (.type "ValueError") = some true
  tyC : typeIn K (.ref C) = some (.type "type")
  slf : mroIn K C (.ref C) = some true
  sup : ks_superIn K C C "__init__" = some (some (.builtin "ValueError.__init__"))
  opq : nsIn K cStatics "thirdparty.any" = some none
  gs : mg "super" = none
  top : (prog.main.scope.names.lookup ("super" : Str)).isSome = false
  fn : ∃ (oc : Value) (od an : Option Addr) (kV doc pm ct : Value) (osl : Array (Option Value)) (qual : Str) (cda cc : Addr) (ccl cl : Value) (cdd cld : Option Addr) (ccs csl : Array (Option Value)) (vs : Array Value) (file : Str) (tf : Tok) (zM : Str) (p1 p2 q0 r0 r1 r2 r3 r4 r5 r6 r7 r8 : Pos),
    K.lookup fI = some ⟨oc, od, .func (ksFn "__init__" qual (eA p1 p2) (eB (eM zM q0) r0 r1 r2 r3 r4 r5 r6 r7 r8) eS .none kV doc pm an (.ref cda) ct cc), osl⟩ ∧ codeIn K (.ref cda) qual = true ∧
    K.lookup cda = some ⟨ccl, cdd, .fields vs, ccs⟩ ∧ vs[2]? = some (.str file tf) ∧ ((prog.main.file : Str) == file) = true ∧ K.lookup cc = some ⟨cl, cld, .cell (some (.ref C)), csl⟩ ∧ zM.length ≤ 1000 ∧ (r2.endLine == r3.line) = true
theorem call_line {o : Expr} {name : Str} {apos pos : Pos} {a : Expr} {env : Env} (hp : (apos.endLine == pos.line) = true) (hs : starEach [a] env = (false, eval a env) :: starEach [] env) : eval (.Call (.Attribute o name apos) [a] [] pos) env = (do
      let ov ← attributeBase o name env (eval o env)
      standAt apos.atName
      let (f, first) ← holding [ov] (getMethod ov name (do return (← importBound o env).getD true))
      callWith pos f first (backTo pos (starEach [a] env)) []) := by
  show (do
      let ov ← attributeBase o name env (eval o env)
      standAt apos.atName
      methodCall o name apos pos env ov 1 (backTo pos (starEach [a] env)) []) = _
  have e : methodCallForm 1 (backTo pos (starEach [a] env)) [] = true := by
    rw [hs]
    rfl
  unfold methodCall
  rw [e]
  unfold methodCallPos calleeOf
  rw [hp]
  simp only [Bool.not_true, Bool.false_or, if_true, pure_bind]
/-- what __init__ leaves of a fresh exception at x, over the heap h -/
structure BtEnd (h h' : Heap) (x C dx t1 : Addr) (v : Value) : Prop where
  keep : ∀ b o, h.get? b = some o → h'.get? b = some o
  obj : h'.get? x = some { cls := .ref C, dict := some dx, data := .fields #[.ref t1, .none, .none, .none, .bool false, .none] }
  dbig : h.objs.size ≤ dx
  dne : dx ≠ x
  ns : h'.Ns1 dx (fun y => if y = "field" then some v else none)
theorem str_len2 (a b : Str) : (a ++ b).length = a.length + b.length := by
  show (a.cps ++ b.cps).size = _
  rw [Array.size_append]
  rfl
theorem len1 (v : Value) : [v].length ≤ sizeLine := by
  rw [sizeLine_eq]
  exact (by decide : 1 ≤ 16777216)
section
variable {prog : Program} {w : World} {A : Around} {E : Value → Shared → Prop} {R : Result → Shared → Prop} {s : Shared} {K : Frag} {mg : Str → Option Value} {x0 : Str} {C fI : Addr}
theorem bt_init (T : ErrTxt prog K mg x0 C fI) {hp : Heap} {x t0 : Addr} {v : Value} (X : K.In hp) (G : hp.Ns mainGlobals mg) (Bl : ∃ mb, hp.Ns builtinsNs mb ∧ mb "super" = some (.type "super")) (hlim : s.heap.NoLimit)
    (k : ∀ b o, hp.get? b = some o → s.heap.get? b = some o) (hsz : hp.objs.size ≤ s.heap.objs.size) (hx : s.heap.get? x = some (excO C t0)) (hxn : hp.get? x = none) (hroom : A.depth < recursionLimit)
    (hq : ∀ h' tk' dx t1, BtEnd hp h' x C dx t1 v → R (.ok (.ret .none)) { s with heap := h', toks := tk' }) :
    codeAny (model prog w) A (.call (.ref fI) ⟨[.ref x, v], []⟩) R s := by
  obtain ⟨oc, od, an, kV, doc, pm, ct, osl, qual, cda, cc, ccl, cl, cdd, cld, ccs, csl, vs, file, tf, zM, p1, p2, q0, r0, r1, r2, r3, r4, r5, r6, r7, r8, ho, hcd, hcode, hvs, hfile, hcell, hM, hline⟩ := T.fn
  obtain ⟨nm, q, N, bs, bm, sn, sub, ab, col, dd, k0, k1, k2, k3, k5, hC, hbm⟩ := T.cls
  obtain ⟨mb, hb, hmb⟩ := Bl
  have hcl : clsIn K C = some { name := nm, bases := bs, mro := .ref C :: bm, ns := N, qualname := q, hasDict := true, slotNames := sn, subclasses := sub, abstract := ab, collection := col, hasDel := false } := by unfold clsIn; rw [hC] <;> rfl
  have Xs : K.In s.heap := X.keeps k
  have noc : ∀ y ∈ eS.names, y.2 ≠ .cell := by decide +kernel
  have locs : ∀ y ∈ [(("self" : Str), Value.ref x), ("field", v)], eS.names.lookup y.1 = some .local := fun y hy => by
    rcases List.mem_cons.mp hy with rfl | hy
    · rfl
    · rw [List.mem_singleton.mp hy]
      rfl
  refine ks_codeAny_call_defAt (body := eB (eM zM q0) r0 r1 r2 r3 r4 r5 r6 r7 r8) (binds := [("self", .ref x), ("field", v)]) hroom (Xs _ _ ho) rfl hlim (codeRec_of Xs hcd) rfl (BindsTo.of_eq (by first | rfl | with_unfolding_all rfl)) noc locs (fun h₁ hns hk₁ => ?_) rfl rfl rfl
  have Fr1 : Fr hp s.heap.objs.size h₁ (fun y => [(("self" : Str), Value.ref x), ("field", v)].reverse.lookup y) := ⟨hns, fun b o e => hk₁ b o (k b o e), hsz⟩
  have N1 : News hp s.heap.objs.size h₁ [(x, excObj C t0 none .none)] := fun p hp' => by
    rw [List.mem_singleton.mp hp']
    exact ⟨hk₁ _ _ hx, Nat.ne_of_lt (Heap.lt_size hx), hxn⟩
  show _root_.PySem.wpAt (model prog w) _ (.func _ (ksEnv qual eS s.heap.objs.size fI (.ref cda) cc)) (execs (eB (eM zM q0) r0 r1 r2 r3 r4 r5 r6 r7 r8) (ksEnv qual eS s.heap.objs.size fI (.ref cda) cc)) _ _ _
  refine ks_wpAt_execs_cons (ks_wpAt_Expr_any (ks_wpAt_MethodCall ?_ (call_line hline rfl)))
  generalize hE : (fun e s' => wpAny (model prog w) _ (leaving _ e) (fun x s'' => R (Except.error e) s'') (fun e' s'' => R (Except.error e') s'') s') = EE
  have X1 : K.In h₁ := X.keeps Fr1.keep
  -- super()
  refine ks_wpAt_super_base (env := ksEnv qual eS s.heap.objs.size fI (.ref cda) cc) rfl rfl rfl rfl (X1 _ _ ho) rfl rfl rfl (X1 _ _ hcode) rfl hvs hfile T.top ?_
  refine ks_loadName_global rfl rfl (loadGlobal_builtin (env := ksEnv qual eS s.heap.objs.size fI (.ref cda) cc) (G.keeps Fr1.keep) T.gs (hb.keeps Fr1.keep) hmb ⟨rfl, ?_⟩)
  refine wpAny_loadName_free rfl rfl rfl ⟨_, X1 _ _ hcell, rfl⟩ ?_
  refine wpAny_loadName_local (v := .ref x) rfl rfl hns rfl ?_
  refine ks_wpAny_isType_cls (X1 _ _ hC) rfl ⟨rfl, ?_⟩
  refine ks_wpAny_call_super (X1 _ _ hC) rfl (hk₁ _ _ hx) rfl (fun c z => by cases z) (looks_mroIn X1 T.slf) (fun h2 hso k2 => ?_)
  obtain ⟨F2, N2, l2⟩ := ks_newsPush (s := ⟨h₁, s.gens, s.drawn, s.toks + 2, s.os⟩) Fr1 N1 rfl hso k2
  -- its __init__, bound
  refine kxs_method kxs_ValueError F2 X N2 (List.mem_cons_self ..) (InstAt.of_exc0 (c2 := .none) (t := t0) N2 (List.mem_cons_of_mem _ (List.mem_cons_self ..))) T.opq T.sup T.veC rfl (fun u h3 F3 N3 l3 => ?_)
  refine kxs_callWith1 N3 (List.mem_cons_self ..) ?_ rfl rfl
  refine Calls.spliced_cons ?_
  show wpAny _ _ (eval (eM zM q0) (ksEnv qual eS s.heap.objs.size fI (.ref cda) cc)) _ _ _
  refine Calls.Constant_str ?_
  refine Calls.spliced_nil ⟨kxs_at N3 (List.mem_cons_self ..), ?_⟩
  have nx1 : h₁.objs.size ≠ x := fun z => Nat.lt_irrefl _ (z ▸ l2 _ (List.mem_cons_self ..) : x < x)
  have nx2 : u ≠ x := fun z => Nat.lt_irrefl _ (z ▸ l3 _ (List.mem_cons_of_mem _ (List.mem_cons_self ..)) : x < x)
  refine kxs_call F3 X N3 PySem.F.excBase_ValueError T.ei (List.mem_cons_self ..) (.tail nx2 (.tail nx1 (.head fun p hp' => by cases hp'))) (len1 _) (fun t' h4 F4 N4 l4 => ?_)
  -- self.field = field
  have X4 : K.In h4 := X.keeps F4.keep
  have hx4 : h4.get? x = some (excO C t') := (N4 (x, excObj C t' none .none) (List.mem_cons_of_mem _ (List.mem_cons_of_mem _ (List.mem_cons_of_mem _ (List.mem_cons_self ..))))).1
  refine wpAt_of_wpAny (wpAny_execs_cons (plainObj_wpAny_Assign_Attribute ?_))
  refine wpAny_Name (wpAny_loadName_local (v := v) rfl rfl F4.ns rfl ?_) rfl
  refine wpAny_Name (wpAny_loadName_local (v := .ref x) rfl rfl F4.ns rfl ?_) rfl
  refine set_plain X4 (ox := excO C t') (od := none) ⟨hx4, rfl, rfl, trivial⟩ T.sa ?_
  refine exc_osa X4 hx4 hcl (show refsVE (.ref C :: bm) = true from hbm) rfl T.noN (fun h5 tk5 dx k5 dn dne hx5 hn5 => ?_)
  have zz : s.heap.objs.size < h4.objs.size := F4.ns.lt
  exact wpAny_execs_nil (hq h5 tk5 dx t' ⟨fun b o e => k5 b o (fun z => by rw [z, hxn] at e; cases e) (F4.keep b o e), hx5, Nat.le_trans hsz (Nat.le_trans (Nat.le_of_lt zz) dn), dne, hn5⟩)
end
end FsB

set_option Elab.async false
set_option linter.all false
set_option maxRecDepth 100000
set_option maxHeartbeats 4000000
/-! set(xs), xs a list or a tuple of texts: how many there are tells whether they all differ. -/
namespace FsT
open PySem PySem.Spec PyProof.Rows
/-- c of the first i texts differ; all of them just when none stands twice -/
structure Few (xs : List Str) (i c : Nat) : Prop where
  le : c ≤ i
  all : c = i ↔ (xs.take i).Nodup
theorem nodup_snoc {l : List Str} {z : Str} : (l ++ [z]).Nodup ↔ l.Nodup ∧ z ∉ l := by
  rw [List.nodup_append]
  constructor
  · intro h
    exact ⟨h.1, fun hz => h.2.2 z hz z (List.mem_singleton.mpr rfl) rfl⟩
  · intro h
    refine ⟨h.1, by simp, fun a ha b hb e => ?_⟩
    rw [List.mem_singleton.mp hb] at e
    exact h.2 (e ▸ ha)
theorem Few.step {xs : List Str} {i c : Nat} {z : Str} (f : Few xs i c) (hz : xs[i]? = some z) : Few xs (i + 1) (if decide (z ∈ xs.take i) = true then c else c + 1) := by
  have e : xs.take (i + 1) = xs.take i ++ [z] := by
    rw [List.take_add_one, hz]
    rfl
  have h1 := f.le
  have h2 := f.all
  by_cases h : z ∈ xs.take i
  · rw [if_pos (decide_eq_true h)]
    refine ⟨by omega, ⟨fun q => absurd q (by omega), fun q => ?_⟩⟩
    rw [e, nodup_snoc] at q
    exact absurd h q.2
  · rw [if_neg (by rw [decide_eq_false h]; decide)]
    refine ⟨by omega, ?_⟩
    rw [e, nodup_snoc]
    constructor
    · intro q
      exact ⟨h2.mp (by omega), h⟩
    · intro q
      have := h2.mpr q.1
      omega
section
variable {P : Program} {w : World} {A : Around} {R : Result → Shared → Prop} {I S : Addr} {fp wr : List Addr} {G : Array GenState → Array GenState → Prop} {n : Nat} {Pv : Nat → Value → Prop} {St : Nat → Shared → Prop}
/-- one text after the other into the set at S -/
theorem tx_loop (W : WalksS P w A.in1 I fp wr G n Pv St) (hS : S ∉ fp) {xs : List Str} (hn : n ≤ 2000) (hv : ∀ i v, Pv i v → ∃ z t, xs[i]? = some z ∧ v = .str z t) (R0 : ∀ s' c, Moved (S :: wr) G s0 s' → Few xs n c → s'.heap.SetOf (PySem.strKind P w) S (fun k => decide (k ∈ xs.take n)) c → R (.ok (.ret .none)) s') :
    ∀ (m i : Nat) (s : Shared), i + m = n → St i s → Moved (S :: wr) G s0 s → (∃ c, Few xs i c ∧ s.heap.SetOf (PySem.strKind P w) S (fun k => decide (k ∈ xs.take i)) c) → codeAny (model P w) A (.builtin "set.update.loop" ⟨[.ref S, .ref I], []⟩) R s := by
  have out : S ∉ wr := fun z => hS (W.sub _ z)
  have up : ∀ b ∈ wr, b ∈ S :: wr := fun b => List.mem_cons_of_mem _
  have stay : ∀ {u u' : Shared} {q : Str → Bool} {c : Nat}, Moved wr G u u' → u.heap.SetOf (PySem.strKind P w) S q c → u'.heap.SetOf (PySem.strKind P w) S q c := fun mv ⟨o, es, ep, t, ho, r⟩ => ⟨o, es, ep, t, mv.heap S o out ho, r⟩
  intro m
  induction m with
  | zero =>
    intro i s him hst mv0 ⟨c, fw, so⟩
    have hi : i = n := by omega
    subst hi
    refine codeAny_builtin PyProof.Rows.F.entry_set_update_loop ?_
    rw [Around.under_plainId F.plain_set_update_loop]
    show wpAny _ _ (pyNext (.ref I) >>= fun _ => _) _ _ s
    exact wpAny_bind (W.done s _ _ hst fun s' mv => wpAny_pure (R0 s' c (Moved.trans W.gtrans mv0 (mv.mono up)) fw (stay mv so)))
  | succ m ih =>
    intro i s him hst mv0 ⟨c, fw, so⟩
    refine codeAny_builtin PyProof.Rows.F.entry_set_update_loop ?_
    rw [Around.under_plainId F.plain_set_update_loop]
    show wpAny _ _ (pyNext (.ref I) >>= fun _ => _) _ _ s
    refine wpAny_bind (W.item i s _ _ (by omega) hst fun v s1 hp hst1 mv => ?_)
    obtain ⟨z, t, hz, rfl⟩ := hv i v hp
    show wpAny _ _ (holding [Value.str z t] (setAdd S (.str z t)) >>= fun _ => _) _ _ s1
    unfold setAdd
    refine wpAny_bind (wpAny_holding (wpAny_holding (wpAny_bind ((PySem.strKind P w).pyHash (strKind_is P w z t) ?_))))
    have c0 := fw.le
    have so1 := stay mv so
    refine wpAny_setAddHashed_of (s := { s1 with toks := s1.toks + 1 }) (strKind_is P w z t) rfl so1 (by show c + 1 < 4096; omega) fun h' but so2 => ?_
    have so3 : h'.SetOf (PySem.strKind P w) S (fun k => decide (k ∈ xs.take (i + 1))) (if decide (z ∈ xs.take i) = true then c else c + 1) := SetOf_congr so2 (fun k => by
      rw [List.take_add_one, hz]
      simp [List.mem_append]) rfl
    refine wpAny_pure ⟨plainId_quiet F.plain_set_update_loop _, ih (i + 1) _ (by omega) (W.frame (i + 1) s1 h' _ hst1 (Nat.le_succ _) fun b hb o ho => ?_) ?_ ⟨_, fw.step hz, so3⟩⟩
    · exact (but.2 b fun z => hS (z ▸ hb)).trans ho
    · refine Moved.trans W.gtrans mv0 ((mv.mono up).then_heap (Nat.le_succ _) fun b o hb ho => ?_)
      exact (but.2 b fun z => hb (z ▸ List.mem_cons_self ..)).trans ho
end
section
variable {P : Program} {w : World} {A : Around} {E : Value → Shared → Prop} {s : Shared}
/-- what set() reads: a list, a tuple -/
structure Feed (P : Program) (w : World) (T iT : String) (items : Array Value) (nl : Nat) (od : Option Addr) (sl : Array (Option Value)) (l : Addr) : Prop where
  s1 : isSubtype (Value.type T) (Value.type "set") = pure false
  s2 : isSubtype (Value.type T) (Value.type "frozenset") = pure false
  nd : (Value.type T == Value.type "dict") = false
  it : ∀ (A' : Around) (E' : Value → Shared → Prop) (u : Shared) (Q' : Value → Shared → Prop), u.heap.get? l = some { cls := .type T, dict := od, data := .seq items nl, slots := sl } →
    Q' (.ref u.heap.objs.size) { u with heap := u.heap.push { cls := .type iT, data := .fields #[.ref l, .int 0 0] } } → wpAny (model P w) A' (pyIter (.ref l)) Q' E' u
  wk : ∀ (A' : Around) (I : Addr), A'.handled = none → l ≠ I → ∃ St : Nat → Shared → Prop, WalksS P w A' I [I, l] [I] (fun a b => b = a) items.size (fun i v => items[i]? = some v) St ∧
    ∀ u : Shared, u.heap.get? I = some { cls := .type iT, data := .fields #[.ref l, .int 0 0] } → u.heap.get? l = some { cls := .type T, dict := od, data := .seq items nl, slots := sl } → St 0 u
theorem feed_list {items : Array Value} {nl : Nat} {od : Option Addr} {sl : Array (Option Value)} {l : Addr} : Feed P w "list" "list_iterator" items nl od sl l :=
  ⟨PySem.F.sub_list_set, PySem.F.sub_list_frozenset, by decide, fun _ _ _ _ h q => wpAny_pyIter_list ⟨_, h, rfl, nl, rfl⟩ q, fun A' I ha ne => ⟨_, (Walks.list ha I l ne items).toS, fun u h1 h2 => ⟨⟨_, h1, rfl, rfl⟩, ⟨_, h2, rfl, nl, rfl⟩⟩⟩⟩
theorem feed_tup {items : Array Value} {nl : Nat} {od : Option Addr} {sl : Array (Option Value)} {l : Addr} : Feed P w "tuple" "tuple_iterator" items nl od sl l :=
  ⟨PySem.F.sub_tuple_set, PySem.F.sub_tuple_frozenset, by decide, fun _ _ _ _ h q => wpAny_pyIter_tuple ⟨_, h, rfl, nl, rfl⟩ q, fun A' I ha ne => ⟨_, (Walks.tuple ha I l ne items).toS, fun u h1 h2 => ⟨⟨_, h1, rfl, rfl⟩, ⟨_, h2, rfl, nl, rfl⟩⟩⟩⟩
/-- set(l) -/
theorem tx_call {T iT : String} {items : Array Value} {nl : Nat} {od : Option Addr} {sl : Array (Option Value)} {l : Addr} {xs : List Str} {Q : Value → Shared → Prop} (D : Feed P w T iT items nl od sl l) (ha : A.handled = none)
    (ho : s.heap.get? l = some { cls := .type T, dict := od, data := .seq items nl, slots := sl }) (hx : StrsAre items.toList xs) (hl : xs.length ≤ 2000)
    (hq : ∀ h' tk c, Few xs xs.length c → h'.SetOf (PySem.strKind P w) s.heap.objs.size (fun k => decide (k ∈ xs)) c → (∀ b o, s.heap.get? b = some o → h'.get? b = some o) → Q (.ref s.heap.objs.size) { s with heap := h', toks := tk }) :
    wpAny (model P w) A (call (.type "set") [.ref l]) Q E s := by
  have cs := PySem.F.called_set
  obtain ⟨cc, rest, mro0⟩ := cs.mro
  have made0 := cs.made
  have sub0 := cs.sub
  refine wpAny_call (codeAny_of_tree ?_)
  show wpAny _ _ (callAny (.type "set") { pos := [.ref l] }) _ _ _
  refine wpAny_pure ⟨Code.quiet_builtin _ (by decide +kernel), codeAny_builtin PySem.F.entry_type_call ?_⟩
  rw [Around.under_plain (weight_type_call_type "set" [Value.ref l] []) rfl]
  have nt0 := cs.notType
  have cr0 := cs.canCreate
  have tc0 := PySem.F.typeCall_set_1 (Value.ref l)
  repeat (any_goals (first | assumption | wp_step))
  refine codeAny_mono (code_set_new_1 (Value.ref l) (E := E) (Q₁ := fun v u => ∃ b : Bool, v = .ref s.heap.objs.size ∧ u = { s with heap := s.heap.push { cls := .type "set", data := .set #[] 0 (.fresh 0 0 b) } }) (fun b => ⟨b, rfl, rfl⟩)) (fun r u hr => ?_)
  match r, hr with
  | .error _, hr => exact hr
  | .ok .next, hr => exact hr.elim
  | .ok .brk, hr => exact hr.elim
  | .ok .cont, hr => exact hr.elim
  | .ok (.ret v), hr =>
    obtain ⟨b, rfl, rfl⟩ := hr
    have at0 : (s.heap.push { cls := .type "set", data := .set #[] 0 (.fresh 0 0 b) }).get? s.heap.objs.size = some { cls := .type "set", data := .set #[] 0 (.fresh 0 0 b) } := Heap.get?_push_size _ rfl
    have ty0 : Shared.TypeIs { s with heap := s.heap.push { cls := .type "set", data := .set #[] 0 (.fresh 0 0 b) } } (.ref s.heap.objs.size) "set" := ⟨_, at0, rfl⟩
    have look0 := cs.init.lookup
    have bind0 := cs.init.bind (.ref s.heap.objs.size)
    repeat (any_goals (first | assumption | wp_step))
    refine codeAny_mono (codeAny_call_builtin (R := wants (fun v u => v = .none ∧ ∃ h' tk c, u = { s with heap := h', toks := tk } ∧ Few xs xs.length c ∧ h'.SetOf (PySem.strKind P w) s.heap.objs.size (fun k => decide (k ∈ xs)) c ∧ ∀ b o, s.heap.get? b = some o → h'.get? b = some o) E)
      cs.init.plain PySem.F.entry_set_init (check_set_init_1 ty0 ?_)) (fun r2 u2 hr2 => ?_)
    · have ho1 : (s.heap.push { cls := .type "set", data := .set #[] 0 (.fresh 0 0 b) }).get? l = some { cls := .type T, dict := od, data := .seq items nl, slots := sl } := Heap.get?_push_of_some _ ho
      have d1 := D.s1
      have d2 := D.s2
      have d3 := D.nd
      unfold Builtin.«set.__init__» noKeywords Builtin.Frozenset.updateFrom
      generalize hI : pyIter = IT
      wp_walk
      subst hI
      have nx : items.size = xs.length := by
        have e := StrsAre.len_eq hx
        rw [Array.length_toList] at e
        exact e
      have ls : l < s.heap.objs.size := Heap.lt_size ho
      have sz1 : (s.heap.push { cls := .type "set", data := .set #[] 0 (.fresh 0 0 b) }).objs.size = s.heap.objs.size + 1 := Heap.size_push ..
      have n1 : l ≠ s.heap.objs.size + 1 := Nat.ne_of_lt (Nat.lt_succ_of_lt ls)
      have n2 : s.heap.objs.size ≠ s.heap.objs.size + 1 := Nat.ne_of_lt (Nat.lt_succ_self _)
      have n3 : s.heap.objs.size ≠ l := (Nat.ne_of_lt ls).symm
      refine D.it _ _ _ _ ho1 (wpAny_bind (wpAny_runValue ?_))
      have at1 : ((s.heap.push { cls := .type "set", data := .set #[] 0 (.fresh 0 0 b) }).push { cls := .type iT, data := .fields #[.ref l, .int 0 0] }).get? s.heap.objs.size = some { cls := .type "set", data := .set #[] 0 (.fresh 0 0 b) } := Heap.get?_push_of_some _ at0
      obtain ⟨St, wk, st0⟩ := D.wk A.in1.in1.in1 (s.heap.push { cls := .type "set", data := .set #[] 0 (.fresh 0 0 b) }).objs.size (by simp [ha]) (by rw [sz1]; exact n1)
      refine tx_loop (s0 := { s with heap := (s.heap.push { cls := .type "set", data := .set #[] 0 (.fresh 0 0 b) }).push { cls := .type iT, data := .fields #[.ref l, .int 0 0] } }) wk (by
          simp only [List.mem_cons, List.not_mem_nil, or_false, not_or]
          exact ⟨by rw [sz1]; exact n2, n3⟩) (xs := xs) (by omega) (fun i v hv => ?_) (fun u c mv fw so => ?_) items.size 0 _ (Nat.zero_add _) (st0 _ (Heap.get?_push_size _ rfl) (Heap.get?_push_of_some _ ho1)) ⟨fun _ _ _ e => e, rfl, rfl, rfl, Nat.le_refl _⟩
        ⟨0, ⟨Nat.le_refl _, by simp⟩, SetOf_congr ((setObjOf_fresh (knd := PySem.strKind P w) b).setOf at1 (by show 0 < 4096; decide)) (fun k => by simp) rfl⟩
      · obtain ⟨t, e⟩ := SS.strs_at hx i v (by rw [Array.getElem?_toList]; exact hv)
        have hi : i < xs.length := by
          rw [← nx]
          exact (Array.getElem?_eq_some_iff.mp hv).1
        exact ⟨xs[i], t, List.getElem?_eq_getElem hi, by rw [e, List.getD_eq_getElem?_getD, List.getElem?_eq_getElem hi]; rfl⟩
      · obtain ⟨h2, g2, d2, t2, o2⟩ := u
        obtain rfl : g2 = s.gens := mv.gens
        obtain rfl : d2 = s.drawn := mv.drawn
        obtain rfl : o2 = s.os := mv.os
        rw [nx] at fw so
        rw [List.take_length] at so
        refine wpAny_pure ?_
        show wpAny _ _ (ret Value.none) _ _ _
        refine wpAny_pure ⟨rfl, h2, t2, c, rfl, fw, so, fun d o e => ?_⟩
        have dl : d < s.heap.objs.size := Heap.lt_size e
        exact mv.heap d o (by
          simp only [List.mem_cons, List.not_mem_nil, or_false, not_or]
          exact ⟨Nat.ne_of_lt dl, by rw [sz1]; exact Nat.ne_of_lt (Nat.lt_succ_of_lt dl)⟩) (Heap.get?_push_of_some _ (Heap.get?_push_of_some _ e))
    · match r2, hr2 with
      | .error _, hr2 => exact hr2
      | .ok .next, hr2 => exact hr2.elim
      | .ok .brk, hr2 => exact hr2.elim
      | .ok .cont, hr2 => exact hr2.elim
      | .ok (.ret v), hr2 =>
        obtain ⟨rfl, h', tk, c, rfl, fw, so, kp⟩ := hr2
        repeat (any_goals (first | assumption | wp_step))
        exact hq h' tk c fw so kp
end
end FsT

set_option Elab.async false
set_option linter.all false
set_option maxRecDepth 100000
set_option maxHeartbeats 2000000
namespace FsR
open PySem PySem.Spec PyProof.Rows L2 FsT
/-- len(set(xs)), xs a list or a tuple of texts -/
def tLenTx (K : PySem.W.Frag) (ta : TE) : TE := fun σ H Q => ta σ H fun x H1 => ∃ (l : Addr) (xs : List Str), x = .ref l ∧ (SqL K H1 l (xs.map V.str) ∨ SqT K H1 l (xs.map V.str)) ∧ xs.length ≤ 2000 ∧ ∀ c, Few xs xs.length c → Q (.int (c : Nat)) H1
theorem pe_lenTx {X : Cx} {a : Expr} {ta : TE} {p p2 q pos : Pos} (hc : X.calm = true) (hg : Gl X "len") (hm : X.mg "len" = none) (hg2 : Gl X "set") (hm2 : X.mg "set" = none) (ha : PE X a ta)
    (na : starEach [a] X.env = (false, eval a X.env) :: starEach [] X.env := by rfl) : PE X (.Call (.Name "len" p) [.Call (.Name "set" p2) [a] [] q] [] pos) (tLenTx X.K ta) := by
  refine ⟨fun pins s σ H Q I h => Call_ (ld_blt I hg hm PySem.boot_len (callWith_builtin1 (args_cons (Call_ (ld_blt I hg2 hm2 boot_set (callWith_type1 (args_cons (thn (ha.run pins s σ H _ I h) fun v u ⟨x, H1, J, rx, l, xs, ex, hq, hl, k⟩ => args_nil ?_) na) na rfl))) rfl) rfl rfl))⟩
  subst ex
  obtain rfl : v = Value.ref l := rx
  have fin : ∀ (h' : Heap) (tk c : Nat), Few xs xs.length c → h'.SetOf (PySem.strKind X.prog X.w) u.heap.objs.size (fun k => decide (k ∈ xs)) c → (∀ b o, u.heap.get? b = some o → h'.get? b = some o) →
      wpAny (model X.prog X.w) X.A (spliced (backTo pos (starEach [] X.env))) (fun vs u2 => wpAny (model X.prog X.w) X.A (call (.builtin "len") (Value.ref u.heap.objs.size :: vs)) (EP X pins σ Q) X.xe u2) X.xe { u with heap := h', toks := tk } := fun h' tk c fw so kp => by
    refine args_nil ?_
    obtain ⟨o, es, ep, t, ho, hex, hd, _, _, hsm, hf, hn⟩ := so
    have J2 : Inv X pins σ H1 { u with heap := h', toks := tk } := J.kept kp
    have c0 := fw.le
    refine call_len_set ho hex hd hf (by rw [hn]; omega) ⟨.int (c : Nat), H1, J2.tok _, ⟨_, by rw [hn]⟩, k c fw⟩
  rcases hq with hq | hq
  · obtain ⟨its, r, pl, hz⟩ := J.list hq
    obtain ⟨⟨oc, od, dt, sl⟩, ho, e1, n, e2⟩ := pl.isList
    dsimp only at e1 e2
    subst e1 e2
    exact tx_call feed_list (J.ok.hd hc) ho (by simpa using strsAre_of r) hl fin
  · obtain ⟨its, r, ⟨⟨oc, od, dt, sl⟩, ho, e1, n, e2⟩, hz⟩ := J.tuple hq
    dsimp only at e1 e2
    subst e1 e2
    exact tx_call feed_tup (J.ok.hd hc) ho (by simpa using strsAre_of r) hl fin
end FsR

set_option Elab.async false
set_option linter.all false
set_option maxRecDepth 100000
set_option maxHeartbeats 2000000
/-! a op b, both instances of one class of the program that defines the operator. -/
namespace FsR
open PySem PySem.Spec PyProof.Rows L2 ClX
structure OpM (K : PySem.W.Frag) (C : Addr) (op : Operator) (g : Addr) : Prop where
  fst : PySem.W.selfFirst K C = true
  at_ : PySem.W.findIn K (.ref C) (PySem.dunder op.info.2) = some (some (.ref g))
  fn : PySem.W.isFn K (.ref g) = true
/-- a op b -/
def tOwn (C : Addr) (sp : Sp) (E : L2.St → XK) (ta tb : TE) : TE := fun σ H Q => ta σ H fun x H1 => tb σ H1 fun y H2 => ∃ (a b dx dy : Addr) (fs gs : List (Str × V)), x = .ref a ∧ y = .ref b ∧ H2 a = some (.ins C dx fs) ∧ H2 b = some (.ins C dy gs) ∧ sp [.ref a, .ref b] H2 Q (E σ)
theorem no_notimpl {y : V} (r : RelV y Value.notImplemented) : False := by
  cases y <;> first | (obtain ⟨t, e⟩ := r; cases e; done) | (cases r; done)
theorem pe_own {X : Cx} {CX : CXT} {k : Nat} {C g : Addr} {fd : FuncData} {ps : List Str} {sp : Sp} {E : L2.St → XK} {ea eb : Expr} {op : Operator} {pos : Pos} {ta tb : TE} (ha : PE X ea ta) (hb : PE X eb tb) (M : OpM X.K C op g) (F : FnOk X.prog X.w X.K X.mg X.base CX k g fd ps sp) (hr : Room k X.A) (hd : Binds X.K fd ps [])
    (hx : ∀ σ, PassesAt CX X σ (E σ)) : PE X (.BinOp ea op eb pos) (tOwn C sp E ta tb) := by
  refine ⟨fun pins s σ H Q I h => wpAny_BinOp (binT ha hb I h fun v u s2 x y H2 I2 rx ry q => ?_)⟩
  obtain ⟨a, b, dx, dy, fs, gs, rfl, rfl, h1, h2, q⟩ := q
  obtain rfl : v = Value.ref a := rx
  obtain rfl : u = Value.ref b := ry
  obtain ⟨_, O1, _, _, _, _⟩ := ins_get I2.hok h1
  obtain ⟨_, O2, _, _, _, _⟩ := ins_get I2.hok h2
  obtain ⟨_, i1, _⟩ := O1.look
  obtain ⟨_, i2, _⟩ := O2.look
  obtain ⟨m, fr⟩ := I2.fr
  refine PySem.W.binop_K fr I2.ok.mod.kin i1 i2.type M.fst M.at_ M.fn (wpAny_mono (run_fnS (us := [.ref a, .ref b]) (vs := [.ref a, .ref b]) F hr hd (hx σ) I2 (.cons rfl (.cons rfl .nil)) q) (fun w s' hw => ?_) fun _ _ z => z)
  obtain ⟨y, H', J, r, q'⟩ := hw
  have fin : EP X pins σ Q w s' := ⟨y, H', J, r, q'⟩
  cases w with
  | notImplemented => exact no_notimpl r
  | _ => exact fin
end FsR

set_option Elab.async false
set_option linter.all false
set_option maxRecDepth 100000
set_option maxHeartbeats 2000000
/-! Lists of things that stand in the heap; what a list's change leaves. -/
namespace FsK
open PySem PySem.Spec PyProof.Rows L2 Evl FsE FsC FsR Fs
/-- a list may change: what stands in objects and tuples stays -/
structure ExN (H H' : Hp) : Prop where
  ins : ∀ a C dx fs, H a = some (.ins C dx fs) → H' a = some (.ins C dx fs)
  tup : ∀ a xs, H a = some (.tup xs) → H' a = some (.tup xs)
theorem ExN.upd {H : Hp} {l : Addr} {xs ys : List V} (h : H l = some (.lst xs)) : ExN H (upd H l (.lst ys)) := ⟨fun a C dx fs ha => by
    rw [upd_ne (fun z => by rw [z, h] at ha; cases ha)]
    exact ha, fun a xs ha => by
    rw [upd_ne (fun z => by rw [z, h] at ha; cases ha)]
    exact ha⟩
theorem ExN.of {H H' : Hp} (e : Ex H H') : ExN H H' := ⟨fun _ _ _ _ h => e _ _ h, fun _ _ h => e _ _ h⟩
theorem ExN.trans {H H1 H2 : Hp} (e : ExN H H1) (e' : ExN H1 H2) : ExN H H2 := ⟨fun a C dx fs h => e'.ins _ _ _ _ (e.ins _ _ _ _ h), fun a xs h => e'.tup _ _ (e.tup _ _ h)⟩
mutual
theorem PrAt.keep {C : Addr} {H H' : Hp} (e : ExN H H') : ∀ {p : Pr} {a : Addr}, PrAt C H a p → PrAt C H' a p
  | .choice os, a, h => by
    unfold PrAt at h ⊢
    obtain ⟨t, ps, ⟨dx, h1⟩, h2, h3⟩ := h
    exact ⟨t, ps, ⟨dx, e.ins _ _ _ _ h1⟩, e.tup _ _ h2, OfsAt.keep e h3⟩
  | .new n k r, a, h => by
    unfold PrAt at h ⊢
    obtain ⟨t, b, ⟨dx, h1⟩, h2, h3⟩ := h
    exact ⟨t, b, ⟨dx, e.ins _ _ _ _ h1⟩, e.tup _ _ h2, PrAt.keep e h3⟩
  | .cond l r y n, a, h => by
    unfold PrAt at h ⊢
    obtain ⟨t, b, c, ⟨dx, h1⟩, h2, h3, h4⟩ := h
    exact ⟨t, b, c, ⟨dx, e.ins _ _ _ _ h1⟩, e.tup _ _ h2, PrAt.keep e h3, PrAt.keep e h4⟩
  | .call n ops, a, h => by
    unfold PrAt at h ⊢
    obtain ⟨t, u, ⟨dx, h1⟩, h2, h3⟩ := h
    exact ⟨t, u, ⟨dx, e.ins _ _ _ _ h1⟩, e.tup _ _ h2, e.tup _ _ h3⟩
theorem OfsAt.keep {C : Addr} {H H' : Hp} (e : ExN H H') : ∀ {os : Ofs} {ps : List V}, OfsAt C H ps os → OfsAt C H' ps os
  | .nil, ps, h => by
    unfold OfsAt at h ⊢
    exact h
  | .cons c s m op ns r os, ps, h => by
    unfold OfsAt at h ⊢
    obtain ⟨o, u, b, qs, h1, h2, h3, h4, h5⟩ := h
    exact ⟨o, u, b, qs, h1, e.tup _ _ h2, e.tup _ _ h3, PrAt.keep e h4, OfsAt.keep e h5⟩
end
/-- item by item -/
def LsA {α : Type} (R : Hp → V → α → Prop) (H : Hp) : List V → List α → Prop
  | [], [] => True
  | v :: vs, x :: xs => R H v x ∧ LsA R H vs xs
  | _, _ => False
section
variable {α : Type} {R : Hp → V → α → Prop} {H H' : Hp}
theorem LsA.imp (e : ∀ v x, R H v x → R H' v x) : ∀ {vs : List V} {xs : List α}, LsA R H vs xs → LsA R H' vs xs
  | [], [], _ => True.intro
  | _ :: _, _ :: _, h => ⟨e _ _ h.1, LsA.imp e h.2⟩
  | [], _ :: _, h => h.elim
  | _ :: _, [], h => h.elim
theorem LsA.append : ∀ {vs ws : List V} {xs ys : List α}, LsA R H vs xs → LsA R H ws ys → LsA R H (vs ++ ws) (xs ++ ys)
  | [], _, [], _, _, g => g
  | _ :: _, _, _ :: _, _, h, g => ⟨h.1, LsA.append h.2 g⟩
  | [], _, _ :: _, _, h, _ => h.elim
  | _ :: _, _, [], _, h, _ => h.elim
theorem LsA.snoc {v : V} {x : α} {vs : List V} {xs : List α} (h : LsA R H vs xs) (hv : R H v x) : LsA R H (vs ++ [v]) (xs ++ [x]) := h.append ⟨hv, True.intro⟩
theorem LsA.length : ∀ {vs : List V} {xs : List α}, LsA R H vs xs → vs.length = xs.length
  | [], [], _ => rfl
  | _ :: _, _ :: _, h => congrArg (· + 1) (LsA.length h.2)
  | [], _ :: _, h => h.elim
  | _ :: _, [], h => h.elim
theorem LsA.get : ∀ {vs : List V} {xs : List α} {i : Nat} {v : V}, LsA R H vs xs → vs[i]? = some v → ∃ x, xs[i]? = some x ∧ R H v x
  | _ :: _, x :: _, 0, v, h, e => ⟨x, rfl, by cases e; exact h.1⟩
  | _ :: _, _ :: _, i + 1, v, h, e => LsA.get (i := i) h.2 e
  | [], _, _, _, _, e => by simp at e
  | _ :: _, [], _, _, h, _ => h.elim
theorem LsA.at_ {vs : List V} {xs : List α} {i : Nat} (h : LsA R H vs xs) (hi : i < vs.length) : ∃ v x, vs[i]? = some v ∧ xs[i]? = some x ∧ R H v x := by
  obtain ⟨x, h1, h2⟩ := LsA.get h (List.getElem?_eq_getElem hi)
  exact ⟨_, x, List.getElem?_eq_getElem hi, h1, h2⟩
end
/-- it evaluates to something with this word -/
def EvS (te : TE) (σ : L2.St) (H : Hp) (Pv : V → Hp → Prop) : Prop := ∀ H1, Ex H H1 → ∀ Q : VK, (∀ v H2, Ex H1 H2 → Pv v H2 → Q v H2) → te σ H1 Q
section
variable {σ : L2.St} {H : Hp} {te ta : TE} {Pv : V → Hp → Prop} {K : PySem.W.Frag} {D : Ends} {tz : TS}
theorem s_appS {l : Addr} {xs : List V} (hl : H l = some (.lst xs)) (ha : Ev ta σ H (.ref l)) (h : EvS te σ H Pv) (hz : xs.length < 100000) (k : ∀ v H1, Ex H H1 → Pv v H1 → D.nx σ (upd H1 l (.lst (xs ++ [v])))) :
    tDrop (tBM K "list" rAppend ta (tCons te tNil)) D σ H := ha H (Ex.refl H) _ fun H1 e1 =>
  ⟨Or.inl ⟨rfl, xs, sq_of (e1 l _ hl)⟩, h H1 e1 _ fun v H2 e2 hv => ⟨l, xs, v, rfl, rfl, e2 l _ (e1 l _ hl), sz_lt hz, k v H2 (e1.trans e2) hv⟩⟩
theorem q_asgS {i : Nat} (h : EvS te σ H Pv) (k : ∀ v H1, Ex H H1 → Pv v H1 → tz D (σ.set i (some v)) H1) : tSeq (tAsg te (gName i)) tz D σ H := h H (Ex.refl H) _ fun v H1 e1 hv => k v H1 e1 hv
theorem s_retS (h : EvS te σ H Pv) (k : ∀ v H1, Ex H H1 → Pv v H1 → D.rt v H1) : tRet te D σ H := h H (Ex.refl H) _ fun v H1 e1 hv => k v H1 e1 hv
/-- a slice of a new list -/
theorem el_slN {tl th : TO} {xs : List V} {lo hi : Option Int} (h : EvL te σ H xs) (h1 : EvO tl σ H lo) (h2 : EvO th σ H hi) : EvL (tSl (rSlL K) te tl th) σ H (cutV xs lo hi) := fun H1 e Q q =>
  h H1 e _ fun a H2 ha e2 h2' => h1 H2 (e.trans e2) _ fun H3 e3 => h2 H3 ((e.trans e2).trans e3) _ fun H4 e4 =>
    ⟨a, xs, rfl, sq_of ((e3.trans e4) _ _ h2'), fun p hp => q p _ (fresh_back ((e2.trans e3).trans e4) hp) (((e2.trans e3).trans e4).trans (Ex.new hp)) upd_same⟩
end
end FsK

set_option Elab.async false
set_option linter.all false
set_option maxRecDepth 100000
set_option maxHeartbeats 2000000
namespace Fs
open PySem L2 Evl FsE FsC
def topS (i : Nat) : Stmt := PySem.Challenge.pw_fullseats_k15_written_processes.main.body.getD i (.Pass ⟨0, 0, 0, 0⟩)
/-! ### names -/
def lettersS : Str := "abcdefghijklmnopqrstuvwxyz"
def digitsS : Str := "0123456789"
def reservedV : List V := [.str "stop", .str "new", .str "if", .str "then", .str "else", .str "put", .str "get", .str "channel", .str "at", .str "define", .str "start"]
def signOk (c : Nat) : Bool := decide (c ∈ lettersS.cps.toList) || decide (c ∈ digitsS.cps.toList)
def nameS (z : Str) : Bool := decide (1 ≤ z.length) && decide (z.length ≤ 8) && decide (z.cps.toList.headD 0 ∈ lettersS.cps.toList) && !inV (.str z) reservedV && z.cps.toList.all signOk
def nameV : V → Bool
  | .str z => nameS z
  | _ => false
/-- an operand's kind of value: an int, or a text of a length within the line -/
def OpV : V → Prop
  | .int _ => True
  | .str z => z.length ≤ 40000
  | _ => False
def spPred (f : V → Bool) : Sp := fun vs H Q _ => ∃ v, vs = [v] ∧ OpV v ∧ RetV (.bl (f v)) H Q
def GC (mg : Str → Option Value) (x : Str) (v : V) : Prop := ∃ u, mg x = some u ∧ RelV v u
structure BasT (K : PySem.W.Frag) (mg : Str → Option Value) : Prop where
  letters : GC mg "LETTERS" (.str lettersS)
  digits : GC mg "DIGITS" (.str digitsS)
  nlen : GC mg "NAME_LENGTH" (.int 8)
  reserved : ∃ a, mg "RESERVED" = some (.ref a) ∧ ∀ H, SqT K H a reservedV
  toolong : GC mg "TOO_LONG" (.int (10 ^ 30))
  seats : GC mg "MOST_SEATS" (.int 4)
  isinst : mg "isinstance" = none
  str : mg "str" = none
  int : mg "int" = none
  bool : mg "bool" = none
  len : mg "len" = none
  all : mg "all" = none
theorem str_len (z : Str) : z.length = z.cps.toList.length := by
  unfold Str.length
  rw [Array.length_toList]
section
variable {P : Program} {w : World} {K : PySem.W.Frag} {mg : Str → Option Value} {base : Heap}
theorem scName : FnScope ["text", "sign"] ["text"] (defScope (topS 7)) := ⟨rfl, rfl, rfl, by decide +kernel, rfl, by decide +kernel, by decide +kernel⟩
theorem ok_is_name {f : Addr} {fd : FuncData} (F : Fun K "is_name" "is_name" (topS 7) f fd) (T : BasT K mg) : FnOk P w K mg base CX0 1 f fd ["text"] (spPred nameV) := by
  refine F.ok scName (fun vs H Q E h => ?_) (fun cdv A outer s H vs Q E hr h => ?_)
  · obtain ⟨v, rfl, _⟩ := h
    rfl
  · obtain ⟨v, rfl, hv, k⟩ := h
    obtain ⟨aR, gR, hR⟩ := T.reserved
    refine ⟨_, pss_cons (ps_if (PW.pt (pw_or (pt_not (pt_val (pe_callB call_isi (by rfl) T.isinst (by decide +kernel) (pa_cons (pv 0) (pa_cons (pe_bltn (v := .ty "str") (by rfl) T.str (by decide +kernel) rfl) pa_nil)))))
        (pw_or1 (pt_not (pt_chain op_le op_le pe_int (pe_callB call_len_str (by rfl) T.len PySem.boot_len (pa_cons (pv 0) pa_nil)) (C8.pe_gc (by rfl) T.nlen)))))) (pss_one (ps_ret pe_bl)) pss_nil)
      (pss_cons (ps_if (PW.pt (pw_or (pt_cmpR op_notIn_sign (pe_ix ix_str (pv 0) pe_int (fun _ _ => rfl)) (C8.pe_gc (by rfl) T.letters) (by rfl))
        (pw_or1 (pt_cmpR op_in_seq (pv 0) (pe_glob (v := .ref aR) (by rfl) gR rfl) (by rfl))))) (pss_one (ps_ret pe_bl)) pss_nil)
      (pss_one (ps_ret (pe_callB (cr_all rfl) (by rfl) T.all (by decide +kernel) (pa_cons
        (pe_lc (own := [("sign", 1)]) (g := gName 1) (tt := tYes) rfl scName.nd (pi_str (pv 0)) (blkOk_by (own := [("sign", 1)]) (N := ["text", "sign"]) (sc := defScope (topS 7)) (by decide +kernel))
          (fun _ _ _ _ _ => pg_name (i := 1) scName.nd rfl (Or.inl rfl)) (fun _ _ _ _ _ => pts_nil)
          (fun _ _ _ _ _ => pe_or (pe_cmpR op_in_sign (pv 1) (C8.pe_gc (by rfl) T.letters) (by rfl)) (pe_one (pe_cmpR op_in_sign (pv 1) (C8.pe_gc (by rfl) T.digits) (by rfl))))) pa_nil))))), ?_⟩
    cases v with
    | int i =>
      refine q_when (b := true) (et_is (et_or (et_not (et_B (ev_cb (ea_cons (ev_var rfl) (ea_cons ev_c ea_nil)) (rc_isInt (b := false) (by decide +kernel))))) (fun q => nomatch q) (b := true)) rfl) (fun _ H1 e1 => ?_) (fun q => nomatch q)
      exact s_ret ev_c fun H2 e2 => k H2 (e1.trans e2)
    | str z =>
      have hz : z.length ≤ 40000 := hv
      have hz2 : z.length ≤ sizeLine := sz_of (by omega)
      refine q_when (b := !(decide ((1 : Int) ≤ (z.length : Nat)) && decide (((z.length : Nat) : Int) ≤ 8))) (et_is (et_or (et_not (et_B (ev_cb (ea_cons (ev_var rfl) (ea_cons ev_c ea_nil)) (rc_isStr (b := true) (by decide +kernel)))))
        (fun _ => et_not (et_test (ev_chain ev_c (ev_cb (ea_cons (ev_var rfl) ea_nil) (rc_lenS hz2)) rv_I0 (fun _ => ev_c) (fun _ => rv_I0))))) rfl) (fun hb H1 e1 => ?_) (fun hb H1 e1 => ?_)
      · refine s_ret ev_c fun H2 e2 => ?_
        have e : nameV (.str z) = false := by
          show nameS z = false
          unfold nameS
          have : (decide (1 ≤ z.length) && decide (z.length ≤ 8)) = false := by
            have hb' : ((z.length : Nat) : Int) < 1 ∨ 8 < ((z.length : Nat) : Int) := by simpa using hb
            simp only [Bool.and_eq_false_iff, decide_eq_false_iff_not]
            omega
          rw [this]
          rfl
        have q := k H2 (e1.trans e2)
        rw [e] at q
        exact q
      · have hb' : 1 ≤ z.length ∧ z.length ≤ 8 := by
          have : ((1 : Int) ≤ (z.length : Nat) ∧ ((z.length : Nat) : Int) ≤ 8) := by simpa using hb
          omega
        obtain ⟨c, r, hc⟩ : ∃ c r, z.cps.toList = c :: r := by
          cases e : z.cps.toList with
          | nil =>
            have := str_len z
            rw [e] at this
            simp at this
            omega
          | cons c r => exact ⟨c, r, rfl⟩
        have h0 : atI z.cps.toList 0 = some c := atI_nat (j := 0) (by rw [hc]; rfl)
        refine q_when (b := !decide (c ∈ lettersS.cps.toList) || inV (.str z) reservedV) (et_or (et_test (ev_op (ev_op (ev_var rfl) ev_c (rv_ixS (by omega) h0)) ev_c rv_niSign))
          (fun _ => et_test (ev_op (ev_var rfl) ev_c (rv_isT (hR _) rfl (by decide +kernel))))) (fun hb2 H2 e2 => ?_) (fun hb2 H2 e2 => ?_)
        · refine s_ret ev_c fun H3 e3 => ?_
          have e : nameV (.str z) = false := by
            show nameS z = false
            unfold nameS
            rw [hc]
            have : (decide (c ∈ lettersS.cps.toList) && !inV (.str z) reservedV) = false := by
              rw [Bool.or_eq_true] at hb2
              rcases hb2 with hb2 | hb2
              · have : decide (c ∈ lettersS.cps.toList) = false := by simpa using hb2
                rw [this]
                rfl
              · rw [hb2]
                simp
            show (decide (1 ≤ z.length) && decide (z.length ≤ 8) && decide (c ∈ lettersS.cps.toList) && !inV (.str z) reservedV && (c :: r).all signOk) = false
            rw [Bool.and_assoc (decide (1 ≤ z.length) && decide (z.length ≤ 8)), this]
            simp
          have q := k H3 ((e1.trans e2).trans e3)
          rw [e] at q
          exact q
        · refine s_ret (ev_all (bs := z.cps.toList.map signOk) (by
            rw [List.map_map]
            exact el_lcSm (V.bl ∘ signOk) (ev_var rfl) (by omega) (fun _ => rfl) (fun c H3 _ _ => ev_orV (ev_op (ev_var rfl) ev_c rv_inSign) (fun _ => ev_op (ev_var rfl) ev_c rv_inSign)))) fun H3 e3 => ?_
          have e : nameV (.str z) = (z.cps.toList.map signOk).all id := by
            show nameS z = _
            unfold nameS
            rw [hc]
            rw [Bool.or_eq_false_iff] at hb2
            have a1 : decide (c ∈ lettersS.cps.toList) = true := by simpa using hb2.1
            show (decide (1 ≤ z.length) && decide (z.length ≤ 8) && decide (c ∈ lettersS.cps.toList) && !inV (.str z) reservedV && (c :: r).all signOk) = _
            rw [decide_eq_true hb'.1, decide_eq_true hb'.2, a1, hb2.2, List.all_map]
            rfl
          have q := k H3 ((e1.trans e2).trans e3)
          rw [e] at q
          exact q
    | _ => exact hv.elim
/-! ### integers, operands, seats -/
def intV : V → Bool
  | .int _ => true
  | _ => false
def shortV : V → Bool
  | .int i => decide (-(10 ^ 30) < i) && decide (i < 10 ^ 30)
  | _ => false
def operandV (v : V) : Bool := shortV v || nameV v
def seatsV : V → Bool
  | .int i => decide (1 ≤ i) && decide (i ≤ 4)
  | _ => false
theorem sp_pred {f : V → Bool} {v : V} {H : Hp} (h : OpV v) : SpV (spPred f) [v] H (.bl (f v)) := fun H1 _ Q q E => ⟨v, rfl, h, fun H2 e => q H2 e⟩
theorem scInt : FnScope ["value"] ["value"] (defScope (topS 9)) := ⟨rfl, rfl, rfl, by decide +kernel, rfl, by decide +kernel, by decide +kernel⟩
theorem ok_is_int {f : Addr} {fd : FuncData} (F : Fun K "is_int" "is_int" (topS 9) f fd) (T : BasT K mg) : FnOk P w K mg base CX0 1 f fd ["value"] (spPred intV) := by
  refine F.ok scInt (fun vs H Q E h => ?_) (fun cdv A outer s H vs Q E hr h => ?_)
  · obtain ⟨v, rfl, _⟩ := h
    rfl
  · obtain ⟨v, rfl, hv, k⟩ := h
    refine ⟨_, pss_one (ps_ret (pe_and (pe_callB call_isi (by rfl) T.isinst (by decide +kernel) (pa_cons (pv 0) (pa_cons (pe_bltn (v := .ty "int") (by rfl) T.int (by decide +kernel) rfl) pa_nil)))
      (pe_one (pe_not (pe_callB call_isi (by rfl) T.isinst (by decide +kernel) (pa_cons (pv 0) (pa_cons (pe_bltn (v := .ty "bool") (by rfl) T.bool (by decide +kernel) rfl) pa_nil))))))), ?_⟩
    cases v with
    | int i => exact s_ret (ev_andV (a := true) (b := true) (ev_cb (ea_cons (ev_var rfl) (ea_cons ev_c ea_nil)) (rc_isInt (by decide +kernel)))
        (fun _ => ev_notV (a := false) (ev_cb (ea_cons (ev_var rfl) (ea_cons ev_c ea_nil)) (rc_isInt (by decide +kernel))))) k
    | str z => exact s_ret (ev_andV (a := false) (b := true) (ev_cb (ea_cons (ev_var rfl) (ea_cons ev_c ea_nil)) (rc_isStr (by decide +kernel))) (fun q => nomatch q)) k
    | _ => exact hv.elim
theorem scShort : FnScope ["value"] ["value"] (defScope (topS 10)) := ⟨rfl, rfl, rfl, by decide +kernel, rfl, by decide +kernel, by decide +kernel⟩
theorem ok_is_short {f : Addr} {fd : FuncData} (F : Fun K "is_short" "is_short" (topS 10) f fd) (T : BasT K mg) (GI : CalX P w K mg base CX0 1 "is_int" (spPred intV)) : FnOk P w K mg base CX0 2 f fd ["value"] (spPred shortV) := by
  refine F.ok scShort (fun vs H Q E h => ?_) (fun cdv A outer s H vs Q E hr h => ?_)
  · obtain ⟨v, rfl, _⟩ := h
    rfl
  · obtain ⟨v, rfl, hv, k⟩ := h
    refine ⟨_, pss_one (ps_ret (pe_and (pe_cx (E := fun _ => E0) GI hr (by decide) (by rfl) at0 (pa_cons (pv 0) pa_nil))
      (pe_one (pe_chain op_lt op_lt (pe_un un_neg (C8.pe_gc (by rfl) T.toolong)) (pv 0) (C8.pe_gc (by rfl) T.toolong))))), ?_⟩
    cases v with
    | int i => exact s_ret (ev_andV (a := true) (ev_cx (ea_cons (ev_var rfl) ea_nil) (sp_pred hv)) (fun _ => ev_chain (ev_un ev_c ru_neg) (ev_var rfl) rv_I0 (fun _ => ev_c) (fun _ => rv_I0))) k
    | str z => exact s_ret (ev_andV (a := false) (b := true) (ev_cx (ea_cons (ev_var rfl) ea_nil) (sp_pred hv)) (fun q => nomatch q)) k
    | _ => exact hv.elim
theorem scOperand : FnScope ["part"] ["part"] (defScope (topS 11)) := ⟨rfl, rfl, rfl, by decide +kernel, rfl, by decide +kernel, by decide +kernel⟩
theorem ok_is_operand {f : Addr} {fd : FuncData} (F : Fun K "is_operand" "is_operand" (topS 11) f fd) (GS : CalX P w K mg base CX0 2 "is_short" (spPred shortV)) (GN : CalX P w K mg base CX0 1 "is_name" (spPred nameV)) :
    FnOk P w K mg base CX0 3 f fd ["part"] (spPred operandV) := by
  refine F.ok scOperand (fun vs H Q E h => ?_) (fun cdv A outer s H vs Q E hr h => ?_)
  · obtain ⟨v, rfl, _⟩ := h
    rfl
  · obtain ⟨v, rfl, hv, k⟩ := h
    refine ⟨_, pss_one (ps_ret (pe_or (pe_cx (E := fun _ => E0) GS hr (by decide) (by rfl) at0 (pa_cons (pv 0) pa_nil)) (pe_one (pe_cx (E := fun _ => E0) GN hr (by decide) (by rfl) at0 (pa_cons (pv 0) pa_nil))))), ?_⟩
    exact s_ret (ev_orV (ev_cx (ea_cons (ev_var rfl) ea_nil) (sp_pred hv)) (fun _ => ev_cx (ea_cons (ev_var rfl) ea_nil) (sp_pred hv))) k
theorem scSeats : FnScope ["count"] ["count"] (defScope (topS 12)) := ⟨rfl, rfl, rfl, by decide +kernel, rfl, by decide +kernel, by decide +kernel⟩
theorem ok_is_seats {f : Addr} {fd : FuncData} (F : Fun K "is_seats" "is_seats" (topS 12) f fd) (T : BasT K mg) (GI : CalX P w K mg base CX0 1 "is_int" (spPred intV)) : FnOk P w K mg base CX0 2 f fd ["count"] (spPred seatsV) := by
  refine F.ok scSeats (fun vs H Q E h => ?_) (fun cdv A outer s H vs Q E hr h => ?_)
  · obtain ⟨v, rfl, _⟩ := h
    rfl
  · obtain ⟨v, rfl, hv, k⟩ := h
    refine ⟨_, pss_one (ps_ret (pe_and (pe_cx (E := fun _ => E0) GI hr (by decide) (by rfl) at0 (pa_cons (pv 0) pa_nil))
      (pe_one (pe_chain op_le op_le pe_int (pv 0) (C8.pe_gc (by rfl) T.seats))))), ?_⟩
    cases v with
    | int i => exact s_ret (ev_andV (a := true) (ev_cx (ea_cons (ev_var rfl) ea_nil) (sp_pred hv)) (fun _ => ev_chain ev_c (ev_var rfl) rv_I0 (fun _ => ev_c) (fun _ => rv_I0))) k
    | str z => exact s_ret (ev_andV (a := false) (b := true) (ev_cx (ea_cons (ev_var rfl) ea_nil) (sp_pred hv)) (fun q => nomatch q)) k
    | _ => exact hv.elim
end
end Fs

set_option Elab.async false
set_option linter.all false
set_option maxRecDepth 100000
set_option maxHeartbeats 2000000
namespace Fs
open PySem L2 Evl FsE FsC FsR
/-! ### what raises: an own error of one argument -/
/-- X(e) made, to be raised: its own dict d, new, holds the argument under f -/
def tMkE (C : Addr) (f : Str) (ta : TA) : L2.St → Hp → XK → Prop := fun σ H Q => ta σ H fun vs H1 => ∃ z : Str, vs = [.str z] ∧ z.length ≤ 1000 ∧ ∀ d, H1 d = none → Q (.ref C) (some d) (upd H1 d (.xd [(f, .str z)]))
/-- the class x at C makes such errors -/
def RaisesX (P : Program) (w : World) (K : PySem.W.Frag) (mg : Str → Option Value) (base : Heap) (x : Str) (C : Addr) (f : Str) (k : Nat) : Prop :=
  ∀ (X : Cx), X.prog = P → X.w = w → X.K = K → X.mg = mg → X.base = base → Room k X.A → ∀ (a : Expr) (ta : TA) (p pos : Pos), PA X [a] ta → Gl X x → starEach (a :: []) X.env = (false, eval a X.env) :: starEach [] X.env → (backTo pos (starEach [] X.env)).any (·.1) = false →
    PMk X (.Call (.Name x p) [a] [] pos) (tMkE C f ta)
/-- what the text has told of the terms' module -/
structure TerT (K : PySem.W.Frag) (mg : Str → Option Value) (C CB : Addr) : Prop where
  cl : Cls K C
  nK : NoAttr K C "kind"
  nP : NoAttr K C "parts"
  nD : NoAttr K C "depth"
  nS : NoAttr K C "size"
  mgC : mg "Process" = some (.ref C)
  kStr : PySem.W.kitOne K (.type "str") (.ref C) = some false
  kInt : PySem.W.kitOne K (.type "int") (.ref C) = some false
  kTup : PySem.W.kitOne K (.type "tuple") (.ref C) = some false
  ha : PySem.W.findIn K (.ref C) "__class__" = some (some (.builtin "object.__class__"))
  hn : PySem.W.specialIn K (.builtin "object.__class__") "__get__" = some (some (.builtin "getset_descriptor.__get__"))
  htk : PySem.W.takesIn K (.builtin "object.__class__") = some true
  hm : PySem.W.mroIn K C (.type "object") = some true
  sum : mg "sum" = none
  max : mg "max" = none
  tuple : mg "tuple" = none
  depth : GC mg "MOST_DEPTH" (.int 20)
  size : GC mg "MOST_SIZE" (.int 400)
theorem kOwn {K : PySem.W.Frag} {C : Addr} : PySem.W.kitOne K (.ref C) (.ref C) = some true := by
  unfold PySem.W.kitOne
  rw [if_pos (beq_self_eq_true _)]
/-- what is raised: the field f -/
def Bad (CB : Addr) (f : Str) (H : Hp) (E : XK) : Prop := ∀ (d : Addr) (H' : Hp), Ex H H' → H d = none → H' d = some (.xd [("field", .str f)]) → E (.ref CB) (some d) H'
theorem Bad.ex {CB : Addr} {f : Str} {H H' : Hp} {E : XK} (e : Ex H H') (h : Bad CB f H E) : Bad CB f H' E := fun d H2 e2 hd h2 => h d H2 (e.trans e2) (fresh_back e hd) h2
/-- demand(allowed, field) -/
def spDemand (CB : Addr) : Sp := fun vs H Q E => ∃ (b : Bool) (f : Str), vs = [.bl b, .str f] ∧ f.length ≤ 1000 ∧ (b = true → RetV .non H Q) ∧ (b = false → Bad CB f H E)
section
variable {P : Program} {w : World} {K : PySem.W.Frag} {mg : Str → Option Value} {base : Heap} {C CB : Addr}
theorem scDemand : FnScope ["allowed", "field"] ["allowed", "field"] (defScope (topS 22)) := ⟨rfl, rfl, rfl, by decide +kernel, rfl, by decide +kernel, by decide +kernel⟩
theorem ok_demand {f : Addr} {fd : FuncData} {k : Nat} (F : Fun K "demand" "demand" (topS 22) f fd) (R : RaisesX P w K mg base "BadTerm" CB "field" k) : FnOk P w K mg base (L2.CX P w) (k + 1) f fd ["allowed", "field"] (spDemand CB) := by
  refine F.okX scDemand (fun vs H Q E h => ?_) (fun cdv A outer s H vs Q E hr h => ?_)
  · obtain ⟨b, z, rfl, _⟩ := h
    rfl
  · obtain ⟨b, z, rfl, hz, k1, k2⟩ := h
    refine ⟨_, pss_one (ps_if (pt_not (pt_val (pv 0))) (pss_one (ps_raise (W := fun cls d _ H => E cls d H) rfl (takes_of rfl rfl rfl rfl) (R _ rfl rfl rfl rfl rfl hr _ _ _ _ (pa_cons (pv 1) pa_nil) (by rfl) (by rfl) (by rfl)))) pss_nil), ?_⟩
    refine s_if (et_not (et_B (ev_var rfl))) (fun hb H1 e1 => ?_) (fun hb H1 e1 => ?_)
    · have hb' : b = false := by simpa using hb
      refine ⟨_, rfl, z, rfl, hz, fun d hd => ?_⟩
      exact k2 hb' d _ (e1.trans (Ex.new hd)) (fresh_back e1 hd) upd_same
    · have hb' : b = true := by simpa using hb
      exact k1 hb' H1 e1
/-- demand(e, 'f') as a statement, what follows behind it -/
theorem q_demand {σ : L2.St} {H : Hp} {te : TE} {f : Str} {b : Bool} {E : L2.St → XK} {tz : TS} {D : Ends} (hf : f.length ≤ 1000) (h : Ev te σ H (.bl b)) (k1 : b = true → ∀ H1, Ex H H1 → tz D σ H1) (k2 : b = false → Bad CB f H (E σ)) :
    tSeq (tDrop (tCallS (spDemand CB) E (tCons te (tCons (tC (.str f)) tNil)))) tz D σ H :=
  h H (Ex.refl H) _ fun H1 e1 => ⟨b, f, rfl, hf, fun hb H2 e2 => k1 hb H2 (e1.trans e2), fun hb => (k2 hb).ex e1⟩
theorem s_demand {σ : L2.St} {H : Hp} {te : TE} {f : Str} {b : Bool} {E : L2.St → XK} {D : Ends} (hf : f.length ≤ 1000) (h : Ev te σ H (.bl b)) (k1 : b = true → ∀ H1, Ex H H1 → D.nx σ H1) (k2 : b = false → Bad CB f H (E σ)) :
    tDrop (tCallS (spDemand CB) E (tCons te (tCons (tC (.str f)) tNil))) D σ H :=
  h H (Ex.refl H) _ fun H1 e1 => ⟨b, f, rfl, hf, fun hb H2 e2 => k1 hb H2 (e1.trans e2), fun hb => (k2 hb).ex e1⟩
/-! ### what a process contains -/
theorem kNew : decide (V.str "new" = V.str "choice") = false := by decide +kernel
theorem kIf : decide (V.str "if" = V.str "choice") = false := by decide +kernel
theorem kCall : decide (V.str "call" = V.str "choice") = false := by decide +kernel
def spInner (C : Addr) : Sp := fun vs H Q _ => ∃ (p : Pr) (t : Addr) (ps rs : List V), vs = [.str p.kind, .ref t] ∧ H t = some (.tup ps) ∧ ps.length ≤ 100 ∧ InnOf C H ps rs p ∧ RetL rs H Q
theorem sp_inner {p : Pr} {t : Addr} {ps rs : List V} {H : Hp} (h1 : H t = some (.tup ps)) (h2 : ps.length ≤ 100) (h3 : InnOf C H ps rs p) : SpL (spInner C) [.str p.kind, .ref t] H rs := fun H1 e Q q E =>
  ⟨p, t, ps, rs, rfl, e _ _ h1, h2, h3.ex e, q⟩
theorem scInner : FnScope ["kind", "parts", "offer", "part"] ["kind", "parts"] (defScope (topS 23)) := ⟨rfl, rfl, rfl, by decide +kernel, rfl, by decide +kernel, by decide +kernel⟩
theorem tyx_pr (T : TerT K mg C CB) {H : Hp} {a : Addr} {p : Pr} (h : PrAt C H a p) : ∀ H1, Ex H H1 → TyX K H1 (.ref a) (.ref C) := fun H1 e => by
  obtain ⟨t, ps, ⟨dx, h1⟩, _⟩ := h.out
  exact .base (.ins (e _ _ h1) T.cl T.ha T.hn T.htk T.hm)
theorem tyx_opd (T : TerT K mg C CB) {H : Hp} (o : Opd) : ∃ t, (∀ H1, Ex H H1 → TyX K H1 o.v t) ∧ PySem.W.kitOne K t (.ref C) = some false := by
  cases o with
  | int i => exact ⟨_, fun _ _ => .base (.int i), T.kInt⟩
  | nm z => exact ⟨_, fun _ _ => .base (.str z), T.kStr⟩
theorem et_isPr {σ : L2.St} {H : Hp} {i : Nat} {x : V} {t : Value} {b : Bool} (hx : σ[i]? = some (some x)) (ht : ∀ H1, Ex H H1 → TyX K H1 x t) (hk : PySem.W.kitOne K t (.ref C) = some b) :
    EvT (L2.tB (tCB (rIsi K) (tCons (tVar i) (tCons (tC (.ref C)) tNil)))) σ H b := et_B (ev_cb (ea_cons (ev_var hx) (ea_cons ev_c ea_nil)) (rc_isiOwn ht hk))
theorem ok_inner {f : Addr} {fd : FuncData} (F : Fun K "inner_processes" "inner_processes" (topS 23) f fd) (B : BasT K mg) (T : TerT K mg C CB) : FnOk P w K mg base CX0 1 f fd ["kind", "parts"] (spInner C) := by
  refine F.ok scInner (fun vs H Q E h => ?_) (fun cdv A outer s H vs Q E hr h => ?_)
  · obtain ⟨p, t, ps, rs, rfl, _⟩ := h
    rfl
  · obtain ⟨p, t, ps, rs, rfl, ht, hl, hI, k⟩ := h
    refine ⟨_, pss_cons (ps_if (pt_cmpR op_eq (pv 0) pe_str (nomark _)) (pss_one (ps_ret (pe_lc (own := [("offer", 2)]) (g := gName 2) (tt := tYes) rfl scInner.nd (pi_tup (pv 1)) (blkOk_by (own := [("offer", 2)]) (N := ["kind", "parts", "offer", "part"]) (sc := defScope (topS 23)) (by decide +kernel))
          (fun _ _ _ _ _ => pg_name (i := 2) scInner.nd rfl (Or.inl rfl)) (fun _ _ _ _ _ => pts_nil) (fun _ _ _ _ _ => pe_ix (r := rIxT K) ix_tup (pv 2) (pe_un un_neg pe_int) (fun _ _ => rfl))))) pss_nil)
      (pss_one (ps_ret (pe_lc (own := [("part", 3)]) (g := gName 3) (tt := L2.tB (tCB (rIsi K) (tCons (tVar 3) (tCons (tC (.ref C)) tNil)))) rfl scInner.nd (pi_tup (pv 1)) (blkOk_by (own := [("part", 3)]) (N := ["kind", "parts", "offer", "part"]) (sc := defScope (topS 23)) (by decide +kernel))
          (fun _ _ _ _ _ => pg_name (i := 3) scInner.nd rfl (Or.inl rfl)) (fun _ _ _ _ _ => pts_one (pt_val (pe_callB (id := "isinstance") (r := rIsi K) call_isi (by rfl) B.isinst (by decide +kernel) (pa_cons (pv 3) (pa_cons (pe_glob (v := .ref C) (by rfl) T.mgC rfl) pa_nil))))) (fun _ _ _ _ _ => pv 3)))), ?_⟩
    cases p with
    | choice os =>
      refine q_if (b := true) (et_test (ev_op (ev_var rfl) ev_c (rv_eq rfl))) (fun _ H1 e1 => ?_) (fun q => nomatch q)
      obtain ⟨h1, h2, h3⟩ := hI.ex e1
      refine s_retL (el_lcTy (ev_var rfl) (st_of (e1 _ _ ht)) (by omega) (fun _ => rfl) h1 (fun i x y H2 e2 hx hy => ?_)) (fun q H2 hq e2 h2 => k q H2 (fresh_back e1 hq) (e1.trans e2) h2)
      obtain ⟨o, c, s, m, op, u, y', rfl, z2, z3⟩ := h3 i x hx
      have e : y' = y := by
        rw [hy] at z2
        exact (Option.some.inj z2).symm
      subst e
      exact ev_op (ev_var rfl) (ev_un ev_c ru_neg) (rv_ixT (st_of (e2 _ _ z3)) rfl)
    | new n kk r =>
      refine q_if (b := false) (et_is (et_test (ev_op (ev_var rfl) ev_c (rv_eq rfl))) kNew) (fun q => nomatch q) (fun _ H1 e1 => ?_)
      obtain ⟨b, rfl, rfl, hb⟩ := hI.ex e1
      refine s_retL (xs := [.ref b]) (el_lcT (fun i => decide (i = 2)) (fun i => .ref b) (ev_var rfl) (st_of (e1 _ _ ht)) (by show 3 ≤ 40000; decide) (fun _ => rfl) (fun i x H2 e2 hx => ?_) (fun i x H2 e2 hx hi => ?_)) (fun q H2 hq e2 h2 => k q H2 (fresh_back e1 hq) (e1.trans e2) h2)
      · match i, hx with
        | 0, hx => cases hx; exact et_isPr rfl (fun _ _ => .base (.str n)) T.kStr
        | 1, hx => cases hx; exact et_isPr rfl (fun _ _ => .base (.int kk)) T.kInt
        | 2, hx => cases hx; exact et_isPr rfl (tyx_pr T (hb.ex e2)) kOwn
      · match i, hx, hi with
        | 2, hx, _ => cases hx; exact ev_var rfl
    | cond l r y n =>
      refine q_if (b := false) (et_is (et_test (ev_op (ev_var rfl) ev_c (rv_eq rfl))) kIf) (fun q => nomatch q) (fun _ H1 e1 => ?_)
      obtain ⟨b, c, rfl, rfl, hb, hc⟩ := hI.ex e1
      refine s_retL (xs := [.ref b, .ref c]) (el_lcT (fun i => decide (2 ≤ i)) (fun i => if i = 2 then .ref b else .ref c) (ev_var rfl) (st_of (e1 _ _ ht)) (by show 4 ≤ 40000; decide) (fun _ => rfl) (fun i x H2 e2 hx => ?_) (fun i x H2 e2 hx hi => ?_)) (fun q H2 hq e2 h2 => k q H2 (fresh_back e1 hq) (e1.trans e2) h2)
      · match i, hx with
        | 0, hx => cases hx; obtain ⟨t, h1, h2⟩ := tyx_opd T l; exact et_isPr rfl h1 h2
        | 1, hx => cases hx; obtain ⟨t, h1, h2⟩ := tyx_opd T r; exact et_isPr rfl h1 h2
        | 2, hx => cases hx; exact et_isPr rfl (tyx_pr T (hb.ex e2)) kOwn
        | 3, hx => cases hx; exact et_isPr rfl (tyx_pr T (hc.ex e2)) kOwn
      · match i, hx, hi with
        | 2, hx, _ => cases hx; exact ev_var rfl
        | 3, hx, _ => cases hx; exact ev_var rfl
    | call n ops =>
      refine q_if (b := false) (et_is (et_test (ev_op (ev_var rfl) ev_c (rv_eq rfl))) kCall) (fun q => nomatch q) (fun _ H1 e1 => ?_)
      obtain ⟨u, rfl, rfl, hu⟩ := hI.ex e1
      refine s_retL (xs := []) (el_lcT (fun i => false) (fun i => .non) (ev_var rfl) (st_of (e1 _ _ ht)) (by show 2 ≤ 40000; decide) (fun _ => rfl) (fun i x H2 e2 hx => ?_) (fun i x H2 e2 hx hi => nomatch hi)) (fun q H2 hq e2 h2 => k q H2 (fresh_back e1 hq) (e1.trans e2) h2)
      match i, hx with
      | 0, hx => cases hx; exact et_isPr rfl (fun _ _ => .base (.str n)) T.kStr
      | 1, hx => cases hx; exact et_isPr rfl (fun H3 e3 => .base (.tup (e3 _ _ (e2 _ _ hu)))) T.kTup
end
end Fs

set_option Elab.async false
set_option linter.all false
set_option maxRecDepth 100000
set_option maxHeartbeats 2000000
namespace Fs
open PySem L2 Evl FsE FsC FsR
def spSize (C : Addr) (f : Pr → Int) : Sp := fun vs H Q _ => ∃ (p : Pr) (t : Addr) (ps : List V), vs = [.str p.kind, .ref t] ∧ H t = some (.tup ps) ∧ ps.length ≤ 100 ∧ PartsAt C H ps p ∧ RetV (.int (f p)) H Q
theorem sp_size {C : Addr} {f : Pr → Int} {p : Pr} {t : Addr} {ps : List V} {H : Hp} (h1 : H t = some (.tup ps)) (h2 : ps.length ≤ 100) (h3 : PartsAt C H ps p) : SpV (spSize C f) [.str p.kind, .ref t] H (.int (f p)) := fun H1 e Q q E =>
  ⟨p, t, ps, rfl, e _ _ h1, h2, h3.ex e, q⟩
theorem hu2_of {A : Around} {k : Nat} (hr : Room k A) : A.units + 1 + 1 < cLine := Nat.lt_of_le_of_lt (by omega : A.units + 1 + 1 ≤ A.units + 64) hr.units
theorem kCh : decide (V.str "choice" = V.str "choice") = true := by decide +kernel
section
variable {P : Program} {w : World} {K : PySem.W.Frag} {mg : Str → Option Value} {base : Heap} {C CB : Addr}
theorem InnOf.short {H : Hp} {ps rs : List V} {p : Pr} (h : InnOf C H ps rs p) (hl : ps.length ≤ 100) : rs.length ≤ 100 := by
  cases p with
  | choice os =>
    have := h.1
    omega
  | new n k r =>
    obtain ⟨b, _, rfl, _⟩ := h
    show 1 ≤ 100
    decide
  | cond l r y n =>
    obtain ⟨b, c, _, rfl, _⟩ := h
    show 2 ≤ 100
    decide
  | call n ops =>
    obtain ⟨u, _, rfl, _⟩ := h
    show 0 ≤ 100
    decide
/-- [process.f for process in (the list)] -/
theorem el_flds {σ : L2.St} {H : Hp} {tl : TE} {j : Nat} {vs : List Nat} {rs : List V} {ps : List Pr} {f : Str} {g : Pr → Int} (hf : ∀ {H : Hp} {a : Addr} {p : Pr}, PrAt C H a p → ∃ dx fs, H a = some (.ins C dx fs) ∧ fs.lookup f = some (.int (g p)))
    (cl : Cls K C) (n : NoAttr K C f) (h : EvL tl σ H rs) (hl : rs.length ≤ 100) (hi : InnAt C H rs ps) (hw : ∀ x, wipe ((wipe σ vs).set j (some x)) vs = wipe σ vs) (hj : ∀ x, ((wipe σ vs).set j (some x))[j]? = some (some x)) :
    EvL (tLc (iList K tl) (gName j) tYes (tFld K (tVar j) f) vs) σ H ((ps.map g).map V.int) := by
  refine el_lcNLy h (by omega) hw (by rw [List.length_map, List.length_map, hi.length]) (fun i x y H1 e hx hy => ?_)
  obtain ⟨a, p, rfl, hp, hps⟩ := InnAt.at_ (hi.ex e) hx
  obtain ⟨dx, fs, h1, h2⟩ := hf hp
  have ey : y = .int (g p) := by
    rw [List.getElem?_map, List.getElem?_map, hps] at hy
    exact (Option.some.inj hy).symm
  subst ey
  exact ev_fld (ev_var (hj _)) h1 cl n h2
theorem fld_depth {H : Hp} {a : Addr} {p : Pr} (h : PrAt C H a p) : ∃ dx fs, H a = some (.ins C dx fs) ∧ fs.lookup ("depth" : Str) = some (.int p.depth) := by
  obtain ⟨t, ps, ⟨dx, h1⟩, _⟩ := h.out
  exact ⟨dx, _, h1, pf_depth⟩
theorem fld_size {H : Hp} {a : Addr} {p : Pr} (h : PrAt C H a p) : ∃ dx fs, H a = some (.ins C dx fs) ∧ fs.lookup ("size" : Str) = some (.int p.size) := by
  obtain ⟨t, ps, ⟨dx, h1⟩, _⟩ := h.out
  exact ⟨dx, _, h1, pf_size⟩
theorem scDepth : FnScope ["kind", "parts", "process"] ["kind", "parts"] (defScope (topS 25)) := ⟨rfl, rfl, rfl, by decide +kernel, rfl, by decide +kernel, by decide +kernel⟩
theorem ok_depth {f : Addr} {fd : FuncData} (F : Fun K "depth_of" "depth_of" (topS 25) f fd) (T : TerT K mg C CB) (GI : CalX P w K mg base CX0 1 "inner_processes" (spInner C)) : FnOk P w K mg base CX0 2 f fd ["kind", "parts"] (spSize C Pr.depth) := by
  refine F.ok scDepth (fun vs H Q E h => ?_) (fun cdv A outer s H vs Q E hr h => ?_)
  · obtain ⟨p, t, ps, rfl, _⟩ := h
    rfl
  · obtain ⟨p, t, ps, rfl, ht, hl, hP, k⟩ := h
    obtain ⟨rs, hI⟩ := hP.inn
    refine ⟨_, pss_one (ps_ret (pe_op op_add pe_int (pe_callBK (ck_maxD rfl (hu2_of hr)) (by rfl) T.max (by decide +kernel) (pa_cons
      (pe_lc (own := [("process", 2)]) (g := gName 2) (tt := tYes) (te := tFld K (tVar 2) "depth") rfl scDepth.nd (pi_list (pe_cx (E := fun _ => E0) GI hr (by decide) (by rfl) at0 (pa_cons (pv 0) (pa_cons (pv 1) pa_nil)))) (blkOk_by (own := [("process", 2)]) (N := ["kind", "parts", "process"]) (sc := defScope (topS 25)) (by decide +kernel))
          (fun _ _ _ _ _ => pg_name (i := 2) scDepth.nd rfl (Or.inl rfl)) (fun _ _ _ _ _ => pts_nil) (fun _ _ _ _ _ => pe_fld (pv 2) rfl)) pa_nil) (pk_cons pe_int pk_nil)))), ?_⟩
    have g : Ev (tOp (rI0 fun i j => .int (i + j)) (tC (.int 1)) (tCKw (FsR.rMaxD K) (tCons (tLc (iList K (tCallS (spInner C) (fun _ => E0) (tCons (tVar 0) (tCons (tVar 1) tNil)))) (gName 2) tYes (tFld K (tVar 2) "depth") [2]) tNil) (tCons (tC (.int 0)) tNil)))
        (start ["kind", "parts", "process"] [.str p.kind, .ref t]) H (.int (1 + maxDef 0 (p.inner.map Pr.depth))) :=
      ev_op ev_c (ev_maxD (el_flds (fun h => fld_depth h) T.cl T.nD (el_cx (ea_cons (ev_var rfl) (ea_cons (ev_var rfl) ea_nil)) (sp_inner ht hl hI)) (hI.short hl) hI.at (fun _ => rfl) (fun _ => rfl))) rv_I0
    rw [Pr.depth_eq] at g
    exact s_ret g k
theorem scSize : FnScope ["kind", "parts", "own", "process"] ["kind", "parts"] (defScope (topS 24)) := ⟨rfl, rfl, rfl, by decide +kernel, rfl, by decide +kernel, by decide +kernel⟩
theorem own_eq {H : Hp} {ps : List V} {p : Pr} (h : PartsAt C H ps p) : p.own = if decide (V.str p.kind = V.str "choice") = true then (if ((ps.length : Nat) : Int) > 1 then ((ps.length : Nat) : Int) else 1) else 1 := by
  cases p with
  | choice os =>
    rw [if_pos (show decide (V.str (Pr.choice os).kind = V.str "choice") = true from kCh)]
    show max 1 (os.len : Int) = _
    rw [OfsAt.len h]
    by_cases q : ((os.len : Nat) : Int) > 1
    · rw [if_pos q]
      omega
    · rw [if_neg q]
      omega
  | new n k r =>
    rw [show decide (V.str (Pr.new n k r).kind = V.str "choice") = false from kNew]
    rfl
  | cond l r y n =>
    rw [show decide (V.str (Pr.cond l r y n).kind = V.str "choice") = false from kIf]
    rfl
  | call n ops =>
    rw [show decide (V.str (Pr.call n ops).kind = V.str "choice") = false from kCall]
    rfl
theorem ok_size {f : Addr} {fd : FuncData} (F : Fun K "size_of" "size_of" (topS 24) f fd) (B : BasT K mg) (T : TerT K mg C CB) (GI : CalX P w K mg base CX0 1 "inner_processes" (spInner C)) : FnOk P w K mg base CX0 2 f fd ["kind", "parts"] (spSize C Pr.size) := by
  refine F.ok scSize (fun vs H Q E h => ?_) (fun cdv A outer s H vs Q E hr h => ?_)
  · obtain ⟨p, t, ps, rfl, _⟩ := h
    rfl
  · obtain ⟨p, t, ps, rfl, ht, hl, hP, k⟩ := h
    obtain ⟨rs, hI⟩ := hP.inn
    refine ⟨_, pss_cons (ps_set (i := 2) scSize.nd rfl (Or.inl rfl) (pe_ifExp (pt_cmpR op_eq (pv 0) pe_str (nomark _)) (pe_callB (call_max2 rfl) (by rfl) T.max (by decide +kernel) (pa_cons pe_int (pa_cons (pe_callB call_len_seq (by rfl) B.len PySem.boot_len (pa_cons (pv 1) pa_nil)) pa_nil))) pe_int))
      (pss_one (ps_ret (pe_op op_add (pv 2) (pe_callB (cr_sum rfl) (by rfl) T.sum (by decide +kernel) (pa_cons
      (pe_lc (own := [("process", 3)]) (g := gName 3) (tt := tYes) (te := tFld K (tVar 3) "size") rfl scSize.nd (pi_list (pe_cx (E := fun _ => E0) GI hr (by decide) (by rfl) at0 (pa_cons (pv 0) (pa_cons (pv 1) pa_nil)))) (blkOk_by (own := [("process", 3)]) (N := ["kind", "parts", "own", "process"]) (sc := defScope (topS 24)) (by decide +kernel))
          (fun _ _ _ _ _ => pg_name (i := 3) scSize.nd rfl (Or.inl rfl)) (fun _ _ _ _ _ => pts_nil) (fun _ _ _ _ _ => pe_fld (pv 3) rfl)) pa_nil))))), ?_⟩
    refine q_asg (v := .int p.own) (ev_if (b := decide (V.str p.kind = V.str "choice")) (et_test (ev_op (ev_var rfl) ev_c (rv_eq rfl))) (fun hb => ?_) (fun hb => ?_)) (fun H1 e1 => ?_)
    · have q := ev_max2 (σ := start ["kind", "parts", "own", "process"] [.str p.kind, .ref t]) (H := H) (ta := tC (.int 1)) (i := 1) (j := ((ps.length : Nat) : Int)) ev_c (ev_lenT (K := K) (ta := tVar 1) (ev_var rfl) (st_of ht))
      rw [own_eq hP, if_pos hb]
      exact q
    · rw [own_eq hP, if_neg (by rw [hb]; decide)]
      exact ev_c
    · have g : Ev (tOp (rI0 fun i j => .int (i + j)) (tVar 2) (tCB (rSum K) (tCons (tLc (iList K (tCallS (spInner C) (fun _ => E0) (tCons (tVar 0) (tCons (tVar 1) tNil)))) (gName 3) tYes (tFld K (tVar 3) "size") [3]) tNil)))
          ((start ["kind", "parts", "own", "process"] [.str p.kind, .ref t]).set 2 (some (.int p.own))) H1 (.int (p.own + (p.inner.map Pr.size).sum)) :=
        ev_op (ev_var rfl) (ev_sum (el_flds (fun h => fld_size h) T.cl T.nS (el_cx (ea_cons (ev_var rfl) (ea_cons (ev_var rfl) ea_nil)) (sp_inner (e1 _ _ ht) hl (hI.ex e1))) (hI.short hl) (hI.at.ex e1) (fun _ => rfl) (fun _ => rfl))) rv_I0
      rw [Pr.size_eq] at g
      exact s_ret g (fun H2 e2 => k H2 (e1.trans e2))
end
end Fs

set_option Elab.async false
set_option linter.all false
set_option maxRecDepth 100000
set_option maxHeartbeats 2000000
namespace Fs
open PySem L2 Evl FsE FsC FsR
def badInit (p : Pr) : Option Str := if p.depth ≤ 20 then (if p.size ≤ 400 then none else some "size") else some "depth"
def spInit (C CB : Addr) : Sp := fun vs H Q E => ∃ (a dx : Addr) (p : Pr) (t : Addr) (ps : List V) (H0 : Hp), vs = [.ref a, .str p.kind, .ref t] ∧ H a = some (.ins C dx []) ∧ H0 a = none ∧ Ex H0 H ∧ H0 t = some (.tup ps) ∧ ps.length ≤ 100 ∧ PartsAt C H0 ps p ∧
  (badInit p = none → ∀ H', Ex H0 H' → H' a = some (.ins C dx (pFlds p.kind t p.depth p.size)) → Q .non H') ∧ (∀ f, badInit p = some f → Bad CB f H0 E)
section
variable {P : Program} {w : World} {K : PySem.W.Frag} {mg : Str → Option Value} {base : Heap} {C CB : Addr}
theorem q_fld {σ : L2.St} {H : Hp} {ta tv : TE} {a C dx : Addr} {fs : List (Str × V)} {f : Str} {v : V} {tz : TS} {D : Ends} (hv : Ev tv σ H v) (ho : Ev ta σ H (.ref a)) (hi : H a = some (.ins C dx fs)) (cl : Cls K C) (n : NoAttr K C f) (hl : fs.length < 1000)
    (k : ∀ H1, Ex H H1 → tz D σ (upd H1 a (.ins C dx (putF f v fs)))) : tSeq (sFld K ta tv f) tz D σ H :=
  hv H (Ex.refl H) _ fun H1 e1 => ho H1 e1 _ fun H2 e2 => ⟨a, C, dx, fs, rfl, (e1.trans e2) _ _ hi, cl, n, hl, k H2 (e1.trans e2)⟩
theorem scInit : FnScope ["self", "kind", "parts"] ["self", "kind", "parts"] (defScope (inClass (topS 26) 0)) := ⟨rfl, rfl, rfl, by decide +kernel, rfl, by decide +kernel, by decide +kernel⟩
theorem putF_len (f : Str) (v : V) : ∀ fs : List (Str × V), (putF f v fs).length ≤ fs.length + 1
  | [] => by
    show 1 ≤ 0 + 1
    decide
  | (g, x) :: fs => by
    have ih := putF_len f v fs
    show (if g = f then (g, v) :: fs else (g, x) :: putF f v fs).length ≤ _
    by_cases h : g = f
    · rw [if_pos h]
      simp
    · rw [if_neg h]
      simp only [List.length_cons]
      omega
theorem ok_init {f : Addr} {fd : FuncData} {k : Nat} (F : Fun K "__init__" "Process.__init__" (inClass (topS 26) 0) f fd) (T : TerT K mg C CB) (GD : CalX P w K mg base CX0 2 "depth_of" (spSize C Pr.depth)) (GS : CalX P w K mg base CX0 2 "size_of" (spSize C Pr.size))
    (GM : CalX P w K mg base (L2.CX P w) k "demand" (spDemand CB)) (hk : 2 ≤ k) : FnOk P w K mg base (L2.CX P w) (k + 1) f fd ["self", "kind", "parts"] (spInit C CB) := by
  refine F.okX scInit (fun vs H Q E h => ?_) (fun cdv A outer s H vs Q E hr h => ?_)
  · obtain ⟨a, dx, p, t, ps, H0, rfl, _⟩ := h
    rfl
  · obtain ⟨a, dx, p, t, ps, H0, rfl, ha, hna, e0, ht, hl, hP, k1, k2⟩ := h
    refine ⟨_, pss_cons (ps_fld (pv 0) (pv 1) rfl) (pss_cons (ps_fld (pv 0) (pv 2) rfl)
      (pss_cons (ps_fld (pv 0) (pe_cx (E := fun _ => E0) GD hr hk (by rfl) at0 (pa_cons (pv 1) (pa_cons (pv 2) pa_nil))) rfl)
      (pss_cons (ps_fld (pv 0) (pe_cx (E := fun _ => E0) GS hr hk (by rfl) at0 (pa_cons (pv 1) (pa_cons (pv 2) pa_nil))) rfl)
      (pss_cons (ps_expr (pe_cx (E := WE (fun cls d _ H => E cls d H)) GM hr (Nat.le_refl _) (by rfl) (fun σ => passAt (takes_of rfl rfl rfl rfl) σ) (pa_cons (pe_cmpR op_le (pe_fld (pv 0) rfl) (C8.pe_gc (by rfl) T.depth) (nomark _)) (pa_cons pe_str pa_nil))))
      (pss_one (ps_expr (pe_cx (E := WE (fun cls d _ H => E cls d H)) GM hr (Nat.le_refl _) (by rfl) (fun σ => passAt (takes_of rfl rfl rfl rfl) σ) (pa_cons (pe_cmpR op_le (pe_fld (pv 0) rfl) (C8.pe_gc (by rfl) T.size) (nomark _)) (pa_cons pe_str pa_nil))))))))), ?_⟩
    refine q_fld (ev_var rfl) (ev_var rfl) ha T.cl T.nK (by show 0 < 1000; decide) (fun H1 e1 => ?_)
    have x1 : Ex H0 (upd H1 a (.ins C dx (putF "kind" (.str p.kind) []))) := Ex.mut (e0.trans e1) hna
    refine q_fld (ev_var rfl) (ev_var rfl) upd_same T.cl T.nP (by have := putF_len "kind" (.str p.kind) []; simp only [List.length_nil] at this; omega) (fun H2 e2 => ?_)
    have x2 : Ex H0 (upd H2 a (.ins C dx (putF "parts" (.ref t) (putF "kind" (.str p.kind) [])))) := Ex.mut (x1.trans e2) hna
    refine q_fld (ev_cx (ea_cons (ev_var rfl) (ea_cons (ev_var rfl) ea_nil)) (sp_size (x2 _ _ ht) hl (hP.ex x2))) (ev_var rfl) upd_same T.cl T.nD (by have h1 := putF_len "kind" (.str p.kind) []; have h2 := putF_len "parts" (.ref t) (putF "kind" (.str p.kind) []); simp only [List.length_nil] at h1; omega) (fun H3 e3 => ?_)
    have x3 : Ex H0 (upd H3 a (.ins C dx (putF "depth" (.int p.depth) (putF "parts" (.ref t) (putF "kind" (.str p.kind) []))))) := Ex.mut (x2.trans e3) hna
    refine q_fld (ev_cx (ea_cons (ev_var rfl) (ea_cons (ev_var rfl) ea_nil)) (sp_size (x3 _ _ ht) hl (hP.ex x3))) (ev_var rfl) upd_same T.cl T.nS (by have h1 := putF_len "kind" (.str p.kind) []; have h2 := putF_len "parts" (.ref t) (putF "kind" (.str p.kind) []); have h3 := putF_len "depth" (.int p.depth) (putF "parts" (.ref t) (putF "kind" (.str p.kind) [])); simp only [List.length_nil] at h1; omega) (fun H4 e4 => ?_)
    have x4 : Ex H0 (upd H4 a (.ins C dx (pFlds p.kind t p.depth p.size))) := Ex.mut (x3.trans e4) hna
    have h4 : (upd H4 a (.ins C dx (pFlds p.kind t p.depth p.size))) a = some (.ins C dx (pFlds p.kind t p.depth p.size)) := upd_same
    refine q_demand (by decide +kernel) (ev_op (ev_fld (ev_var rfl) h4 T.cl T.nD pf_depth) ev_c rv_I0) (fun hb H5 e5 => ?_) (fun hb => ?_)
    · have hd : p.depth ≤ 20 := by simpa using hb
      refine s_demand (by decide +kernel) (ev_op (ev_fld (ev_var rfl) (e5 _ _ h4) T.cl T.nS pf_size) ev_c rv_I0) (fun hb2 H6 e6 => ?_) (fun hb2 => ?_)
      · have hs : p.size ≤ 400 := by simpa using hb2
        exact k1 (by unfold badInit; rw [if_pos hd, if_pos hs]) H6 ((x4.trans e5).trans e6) ((e5.trans e6) _ _ h4)
      · have hs : ¬ p.size ≤ 400 := by simpa using hb2
        exact (k2 "size" (by unfold badInit; rw [if_pos hd, if_neg hs])).ex (x4.trans e5)
    · have hd : ¬ p.depth ≤ 20 := by simpa using hb
      exact (k2 "depth" (by unfold badInit; rw [if_neg hd])).ex x4
/-- what a maker gives: the process, or the field that is refused -/
def Made (C CB : Addr) (o : Option Str) (p : Pr) (H : Hp) (Q : VK) (E : XK) : Prop :=
  (o = none → ∀ a H', H a = none → Ex H H' → PrAt C H' a p → Q (.ref a) H') ∧ (∀ f, o = some f → Bad CB f H E)
theorem Made.ex {o : Option Str} {p : Pr} {H H' : Hp} {Q : VK} {E : XK} (e : Ex H H') (h : Made C CB o p H Q E) : Made C CB o p H' Q E :=
  ⟨fun ho a H2 ha e2 hp => h.1 ho a H2 (fresh_back e ha) (e.trans e2) hp, fun f hf => (h.2 f hf).ex e⟩
/-- a tuple that holds the parts of p -/
def EvP (C : Addr) (tp : TE) (σ : L2.St) (H : Hp) (p : Pr) : Prop := ∀ H1, Ex H H1 → ∀ Q : VK, (∀ t H2 ps, H1 t = none → Ex H1 H2 → H2 t = some (.tup ps) → ps.length ≤ 100 → PartsAt C H2 ps p → Q (.ref t) H2) → tp σ H1 Q
theorem EvP.of {σ : L2.St} {H : Hp} {tp : TE} {p : Pr} {ps : List V} (h : EvU tp σ H ps) (hl : ps.length ≤ 100) (hP : PartsAt C H ps p) : EvP C tp σ H p := fun H1 e Q q => h H1 e Q fun t H2 ht e2 h2 => q t H2 ps ht e2 h2 hl (hP.ex (e.trans e2))
/-- Process(kind, parts) -/
theorem ret_make {σ : L2.St} {H : Hp} {tk tp : TE} {p : Pr} {D : Ends} {E : XK} (hkd : Ev tk σ H (.str p.kind)) (hp : EvP C tp σ H p) (m : Made C CB (badInit p) p H D.rt E) :
    tRet (tMake C (spInit C CB) [] E (tCons tk (tCons tp tNil))) D σ H :=
  hkd H (Ex.refl H) _ fun H1 e1 => hp H1 e1 _ fun t H2 ps ht e2 h2 hl hP => fun x dx hx hdx hne => by
    have x0 : Ex H2 (upd (upd H2 dx (.own x)) x (.ins C dx [])) := by
      intro b o hb
      rw [upd_ne (ne_of_none hb hx), upd_ne (ne_of_none hb hdx)]
      exact hb
    refine ⟨x, dx, p, t, ps, H2, rfl, upd_same, hx, x0, h2, hl, hP, fun hb H' e' h' => ⟨rfl, ?_⟩, fun f hf => ((m.2 f hf).ex (e1.trans e2))⟩
    exact m.1 hb x H' (fresh_back (e1.trans e2) hx) ((e1.trans e2).trans e') (PrAt.mk ⟨dx, h'⟩ (e' _ _ h2) (hP.ex e'))
end
end Fs

set_option Elab.async false
set_option linter.all false
set_option maxRecDepth 100000
set_option maxHeartbeats 2000000
namespace Fs
open PySem L2 Evl FsE FsC FsR FsT
def namesS (ns : List Str) : Bool := (ns.map nameS).all id && decide ns.Nodup
/-- names, in a list or a tuple -/
def NmsAt (H : Hp) (u : Addr) (ns : List Str) : Prop := H u = some (.lst (ns.map V.str)) ∨ H u = some (.tup (ns.map V.str))
theorem NmsAt.ex {H H' : Hp} {u : Addr} {ns : List Str} (e : Ex H H') (h : NmsAt H u ns) : NmsAt H' u ns := h.imp (e _ _) (e _ _)
theorem NmsAt.sq {K : PySem.W.Frag} {H : Hp} {u : Addr} {ns : List Str} (h : NmsAt H u ns) : SqL K H u (ns.map V.str) ∨ SqT K H u (ns.map V.str) := h.imp sq_of st_of
def spNames : Sp := fun vs H Q _ => ∃ (u : Addr) (ns : List Str), vs = [.ref u] ∧ NmsAt H u ns ∧ ns.length ≤ 90 ∧ (∀ z ∈ ns, z.length ≤ 40000) ∧ RetV (.bl (namesS ns)) H Q
section
variable {P : Program} {w : World} {K : PySem.W.Frag} {mg : Str → Option Value} {base : Heap} {C CB : Addr}
/-- len(set(xs)) == n, n the length of xs -/
theorem ev_differ {σ : L2.St} {H : Hp} {ta tb : TE} {u : Addr} {ns : List Str} (h : Ev ta σ H (.ref u)) (hu : NmsAt H u ns) (hl : ns.length ≤ 90) (hb : Ev tb σ H (.int ((ns.length : Nat) : Int))) : Ev (tOp rEq (tLenTx K ta) tb) σ H (.bl (decide ns.Nodup)) := fun H1 e Q q =>
  h H1 e _ fun H2 e2 => ⟨u, ns, rfl, (hu.ex (e.trans e2)).sq, by omega, fun c fw => hb H2 (e.trans e2) _ fun H3 e3 => rv_eq (x := .int (c : Nat)) (y := .int ((ns.length : Nat) : Int)) rfl H3 (Ex.refl H3) _ fun H4 e4 => by
    have a := fw.all
    rw [List.take_length] at a
    have b : decide (V.int ((c : Nat) : Int) = V.int ((ns.length : Nat) : Int)) = decide ns.Nodup := by
      by_cases hn : ns.Nodup
      · rw [decide_eq_true hn, a.mpr hn]
        exact decide_eq_true rfl
      · rw [decide_eq_false hn]
        refine decide_eq_false fun z => hn (a.mp ?_)
        injection z with z
        omega
    rw [b]
    exact q H4 ((e2.trans e3).trans e4)⟩
theorem nms_at {ns : List Str} {i : Nat} {x y : V} (hz : ∀ z ∈ ns, z.length ≤ 40000) (hx : (ns.map V.str)[i]? = some x) (hy : ((ns.map nameS).map V.bl)[i]? = some y) : OpV x ∧ y = .bl (nameV x) := by
  rw [List.map_map, List.getElem?_map] at hy
  rw [List.getElem?_map] at hx
  cases hq : ns[i]? with
  | none =>
    rw [hq] at hx
    cases hx
  | some z =>
    rw [hq] at hx hy
    have ex : V.str z = x := Option.some.inj hx
    have ey : V.bl (nameS z) = y := Option.some.inj hy
    subst ex
    exact ⟨hz z (List.mem_of_getElem? hq), ey.symm⟩
theorem scNames : FnScope ["texts", "text"] ["texts"] (defScope (topS 8)) := ⟨rfl, rfl, rfl, by decide +kernel, rfl, by decide +kernel, by decide +kernel⟩
theorem ok_are_names {f : Addr} {fd : FuncData} (F : Fun K "are_names" "are_names" (topS 8) f fd) (B : BasT K mg) (hset : mg "set" = none) (GN : CalX P w K mg base CX0 1 "is_name" (spPred nameV)) : FnOk P w K mg base CX0 2 f fd ["texts"] spNames := by
  refine F.ok scNames (fun vs H Q E h => ?_) (fun cdv A outer s H vs Q E hr h => ?_)
  · obtain ⟨u, ns, rfl, _⟩ := h
    rfl
  · obtain ⟨u, ns, rfl, hu, hl, hz, q⟩ := h
    have hlen : (ns.map V.str).length ≤ 40000 := by rw [List.length_map]; omega
    have hlen2 : ((ns.map nameS).map V.bl).length = (ns.map V.str).length := by simp
    have hbs : (((ns.map V.str).length : Nat) : Int) = ((ns.length : Nat) : Int) := by rw [List.length_map]
    have each : ∀ {σ : L2.St} {H2 : Hp} {i : Nat} {x y : V}, (ns.map V.str)[i]? = some x → ((ns.map nameS).map V.bl)[i]? = some y → σ[1]? = some (some x) → Ev (tCallS (spPred nameV) (fun _ => E0) (tCons (tVar 1) tNil)) σ H2 y := fun hx hy hv => by
      obtain ⟨a1, a2⟩ := nms_at hz hx hy
      rw [a2]
      exact ev_cx (ea_cons (ev_var hv) ea_nil) (sp_pred a1)
    rcases id hu with hu1 | hu1
    · refine ⟨_, pss_one (ps_ret (pe_and (pe_callB (cr_all rfl) (by rfl) B.all (by decide +kernel) (pa_cons
          (pe_lc (own := [("text", 1)]) (g := gName 1) (tt := tYes) (te := tCallS (spPred nameV) (fun _ => E0) (tCons (tVar 1) tNil)) rfl scNames.nd (pi_list (pv 0)) (blkOk_by (own := [("text", 1)]) (N := ["texts", "text"]) (sc := defScope (topS 8)) (by decide +kernel))
            (fun _ _ _ _ _ => pg_name (i := 1) scNames.nd rfl (Or.inl rfl)) (fun _ _ _ _ _ => pts_nil) (fun _ _ _ _ _ => pe_cx (E := fun _ => E0) GN hr (by decide) (by rfl) at0 (pa_cons (pv 1) pa_nil))) pa_nil))
          (pe_one (pe_cmpR op_eq (pe_lenTx rfl (by rfl) B.len (by rfl) hset (pv 0)) (pe_callB call_len_seq (by rfl) B.len PySem.boot_len (pa_cons (pv 0) pa_nil)) (nomark _))))), ?_⟩
      refine s_ret (v := .bl (namesS ns)) (ev_andV (ev_all (bs := ns.map nameS) (el_lcLy (ev_var rfl) (sq_of hu1) hlen (fun _ => rfl) hlen2 (fun i x y H2 e2 hx hy => each hx hy rfl)))
        (fun _ => ev_differ (ev_var rfl) hu hl (ev_is (ev_cb (ea_cons (ev_var rfl) ea_nil) (fun H2 e2 Q' q' => ⟨u, _, rfl, .inl (sq_of (e2 _ _ hu1)), q' H2 (Ex.refl H2)⟩)) (by rw [hbs])))) q
    · refine ⟨_, pss_one (ps_ret (pe_and (pe_callB (cr_all rfl) (by rfl) B.all (by decide +kernel) (pa_cons
          (pe_lc (own := [("text", 1)]) (g := gName 1) (tt := tYes) (te := tCallS (spPred nameV) (fun _ => E0) (tCons (tVar 1) tNil)) rfl scNames.nd (pi_tup (pv 0)) (blkOk_by (own := [("text", 1)]) (N := ["texts", "text"]) (sc := defScope (topS 8)) (by decide +kernel))
            (fun _ _ _ _ _ => pg_name (i := 1) scNames.nd rfl (Or.inl rfl)) (fun _ _ _ _ _ => pts_nil) (fun _ _ _ _ _ => pe_cx (E := fun _ => E0) GN hr (by decide) (by rfl) at0 (pa_cons (pv 1) pa_nil))) pa_nil))
          (pe_one (pe_cmpR op_eq (pe_lenTx rfl (by rfl) B.len (by rfl) hset (pv 0)) (pe_callB call_len_seq (by rfl) B.len PySem.boot_len (pa_cons (pv 0) pa_nil)) (nomark _))))), ?_⟩
      refine s_ret (v := .bl (namesS ns)) (ev_andV (ev_all (bs := ns.map nameS) (el_lcTy (ev_var rfl) (st_of hu1) hlen (fun _ => rfl) hlen2 (fun i x y H2 e2 hx hy => each hx hy rfl)))
        (fun _ => ev_differ (ev_var rfl) hu hl (ev_is (ev_cb (ea_cons (ev_var rfl) ea_nil) (fun H2 e2 Q' q' => ⟨u, _, rfl, .inr (st_of (e2 _ _ hu1)), q' H2 (Ex.refl H2)⟩)) (by rw [hbs])))) q
end
end Fs

set_option Elab.async false
set_option linter.all false
set_option maxRecDepth 100000
set_option maxHeartbeats 2000000
namespace Fs
open PySem L2 Evl FsE FsC FsR FsT
def Opd.ok : Opd → Prop
  | .int _ => True
  | .nm z => z.length ≤ 40000
theorem Opd.opv {o : Opd} (h : o.ok) : OpV o.v := by
  cases o with
  | int i => exact True.intro
  | nm z => exact h
/-! what is refused -/
def badNew (z : Str) (k : Int) (r : Pr) : Option Str := if nameS z = true then (if seatsV (.int k) = true then badInit (.new z k r) else some "seats") else some "name"
def badWhen (l r : Opd) (y n : Pr) : Option Str := if operandV l.v = true then (if operandV r.v = true then badInit (.cond l r y n) else some "right") else some "left"
def opsOk (ops : List Opd) : Bool := decide (((ops.length : Nat) : Int) ≤ 4) && (ops.map fun o => operandV o.v).all id
def badCall (z : Str) (ops : List Opd) : Option Str := if nameS z = true then (if opsOk ops = true then badInit (.call z ops) else some "operands") else some "name"
/-! the promises -/
def spStop (C CB : Addr) : Sp := fun vs H Q E => vs = [] ∧ Made C CB none (.choice .nil) H Q E
def spNew (C CB : Addr) : Sp := fun vs H Q E => ∃ (z : Str) (k : Int) (b : Addr) (r : Pr), vs = [.str z, .int k, .ref b] ∧ z.length ≤ 40000 ∧ PrAt C H b r ∧ Made C CB (badNew z k r) (.new z k r) H Q E
def spWhen (C CB : Addr) : Sp := fun vs H Q E => ∃ (l r : Opd) (b c : Addr) (y n : Pr), vs = [l.v, r.v, .ref b, .ref c] ∧ l.ok ∧ r.ok ∧ PrAt C H b y ∧ PrAt C H c n ∧ Made C CB (badWhen l r y n) (.cond l r y n) H Q E
/-- a list or a tuple of the operands -/
def OpsAt (K : PySem.W.Frag) (H : Hp) (u : Addr) (ops : List Opd) : Prop := H u = some (.lst (ops.map Opd.v)) ∨ H u = some (.tup (ops.map Opd.v))
def spCall (K : PySem.W.Frag) (C CB : Addr) : Sp := fun vs H Q E => ∃ (z : Str) (u : Addr) (ops : List Opd), vs = [.str z, .ref u] ∧ z.length ≤ 40000 ∧ OpsAt K H u ops ∧ ops.length ≤ 90 ∧ (∀ o ∈ ops, o.ok) ∧ Made C CB (badCall z ops) (.call z ops) H Q E
/-- what the makers ask -/
structure MakT (P : Program) (w : World) (K : PySem.W.Frag) (mg : Str → Option Value) (base : Heap) (C CB : Addr) (k : Nat) : Prop where
  make : MakX P w K mg base (L2.CX P w) k "Process" C (spInit C CB)
  dem : CalX P w K mg base (L2.CX P w) k "demand" (spDemand CB)
  name : CalX P w K mg base CX0 1 "is_name" (spPred nameV)
  seats : CalX P w K mg base CX0 2 "is_seats" (spPred seatsV)
  operand : CalX P w K mg base CX0 3 "is_operand" (spPred operandV)
  int : CalX P w K mg base CX0 1 "is_int" (spPred intV)
  names : CalX P w K mg base CX0 2 "are_names" spNames
  mops : GC mg "MOST_OPERANDS" (.int 4)
  tuple : mg "tuple" = none
  len : mg "len" = none
  all : mg "all" = none
  hk : 3 ≤ k
section
variable {P : Program} {w : World} {K : PySem.W.Frag} {mg : Str → Option Value} {base : Heap} {C CB : Addr} {k : Nat}
theorem scStop : FnScope [] [] (defScope (inClass (topS 26) 1)) := ⟨rfl, rfl, rfl, by decide +kernel, rfl, by decide +kernel, by decide +kernel⟩
theorem ok_stop {f : Addr} {fd : FuncData} (F : Fun K "stop" "Process.stop" (inClass (topS 26) 1) f fd) (M : MakT P w K mg base C CB k) : FnOk P w K mg base (L2.CX P w) (k + 1 + 1) f fd [] (spStop C CB) := by
  refine F.okX scStop (fun vs H Q E h => ?_) (fun cdv A outer s H vs Q E hr h => ?_)
  · obtain ⟨rfl, _⟩ := h
    rfl
  · obtain ⟨rfl, m⟩ := h
    refine ⟨_, pss_one (ps_ret (pe_mx M.make hr (Nat.le_refl _) (by rfl) (passes_call (W := fun cls d _ H => E cls d H) (takes_of rfl rfl rfl rfl) (fun _ _ _ _ h => h)) (pa_cons pe_str (pa_cons (pe_tup pa_nil) pa_nil)))), ?_⟩
    exact ret_make (p := .choice .nil) ev_c (EvP.of (ps := []) (eu_tup ea_nil (by decide)) (by decide) rfl) m
theorem scNew : FnScope ["name", "seats", "rest"] ["name", "seats", "rest"] (defScope (inClass (topS 26) 3)) := ⟨rfl, rfl, rfl, by decide +kernel, rfl, by decide +kernel, by decide +kernel⟩
theorem Made.bad {o : Option Str} {f : Str} {p : Pr} {H : Hp} {Q : VK} {E : XK} (m : Made C CB o p H Q E) (h : o = some f) : Bad CB f H E := m.2 f h
theorem ok_new {f : Addr} {fd : FuncData} (F : Fun K "new" "Process.new" (inClass (topS 26) 3) f fd) (M : MakT P w K mg base C CB k) : FnOk P w K mg base (L2.CX P w) (k + 1 + 1) f fd ["name", "seats", "rest"] (spNew C CB) := by
  refine F.okX scNew (fun vs H Q E h => ?_) (fun cdv A outer s H vs Q E hr h => ?_)
  · obtain ⟨z, kk, b, r, rfl, _⟩ := h
    rfl
  · obtain ⟨z, kk, b, r, rfl, hz, hb, m⟩ := h
    have h3 := M.hk
    refine ⟨_, pss_cons (ps_expr (pe_cx (E := WE (fun cls d _ H => E cls d H)) M.dem hr (Nat.le_succ _) (by rfl) (fun σ => passAt (takes_of rfl rfl rfl rfl) σ) (pa_cons (pe_cx (E := fun _ => E0) M.name hr (by omega) (by rfl) at0 (pa_cons (pv 0) pa_nil)) (pa_cons pe_str pa_nil))))
      (pss_cons (ps_expr (pe_cx (E := WE (fun cls d _ H => E cls d H)) M.dem hr (Nat.le_succ _) (by rfl) (fun σ => passAt (takes_of rfl rfl rfl rfl) σ) (pa_cons (pe_cx (E := fun _ => E0) M.seats hr (by omega) (by rfl) at0 (pa_cons (pv 1) pa_nil)) (pa_cons pe_str pa_nil))))
      (pss_one (ps_ret (pe_mx M.make hr (Nat.le_refl _) (by rfl) (passes_call (W := fun cls d _ H => E cls d H) (takes_of rfl rfl rfl rfl) (fun _ _ _ _ h => h)) (pa_cons pe_str (pa_cons (pe_tup (pa_cons (pv 0) (pa_cons (pv 1) (pa_cons (pv 2) pa_nil)))) pa_nil)))))), ?_⟩
    refine q_demand (by decide +kernel) (ev_cx (ea_cons (ev_var rfl) ea_nil) (sp_pred (f := nameV) (v := .str z) hz)) (fun h1 H1 e1 => ?_) (fun h1 => m.bad (by unfold badNew; rw [if_neg (by rw [show nameS z = false from h1]; decide)]))
    refine q_demand (by decide +kernel) (ev_cx (ea_cons (ev_var rfl) ea_nil) (sp_pred (f := seatsV) (v := .int kk) True.intro)) (fun h2 H2 e2 => ?_) (fun h2 => (m.ex e1).bad (by unfold badNew; rw [if_pos (show nameS z = true from h1), if_neg (by rw [h2]; decide)]))
    have e : badNew z kk r = badInit (.new z kk r) := by unfold badNew; rw [if_pos (show nameS z = true from h1), if_pos h2]
    rw [e] at m
    exact ret_make (p := .new z kk r) ev_c (EvP.of (eu_tup (ea_cons (ev_var rfl) (ea_cons (ev_var rfl) (ea_cons (ev_var rfl) ea_nil))) (by show 3 ≤ 100000; decide)) (by show 3 ≤ 100; decide) ⟨b, rfl, hb.ex (e1.trans e2)⟩) (m.ex (e1.trans e2))
theorem scWhen : FnScope ["left", "right", "yes", "no"] ["left", "right", "yes", "no"] (defScope (inClass (topS 26) 4)) := ⟨rfl, rfl, rfl, by decide +kernel, rfl, by decide +kernel, by decide +kernel⟩
theorem ok_when {f : Addr} {fd : FuncData} (F : Fun K "when" "Process.when" (inClass (topS 26) 4) f fd) (M : MakT P w K mg base C CB k) : FnOk P w K mg base (L2.CX P w) (k + 1 + 1) f fd ["left", "right", "yes", "no"] (spWhen C CB) := by
  refine F.okX scWhen (fun vs H Q E h => ?_) (fun cdv A outer s H vs Q E hr h => ?_)
  · obtain ⟨l, r, b, c, y, n, rfl, _⟩ := h
    rfl
  · obtain ⟨l, r, b, c, y, n, rfl, hl, hrr, hb, hc, m⟩ := h
    have h3 := M.hk
    refine ⟨_, pss_cons (ps_expr (pe_cx (E := WE (fun cls d _ H => E cls d H)) M.dem hr (Nat.le_succ _) (by rfl) (fun σ => passAt (takes_of rfl rfl rfl rfl) σ) (pa_cons (pe_cx (E := fun _ => E0) M.operand hr (by omega) (by rfl) at0 (pa_cons (pv 0) pa_nil)) (pa_cons pe_str pa_nil))))
      (pss_cons (ps_expr (pe_cx (E := WE (fun cls d _ H => E cls d H)) M.dem hr (Nat.le_succ _) (by rfl) (fun σ => passAt (takes_of rfl rfl rfl rfl) σ) (pa_cons (pe_cx (E := fun _ => E0) M.operand hr (by omega) (by rfl) at0 (pa_cons (pv 1) pa_nil)) (pa_cons pe_str pa_nil))))
      (pss_one (ps_ret (pe_mx M.make hr (Nat.le_refl _) (by rfl) (passes_call (W := fun cls d _ H => E cls d H) (takes_of rfl rfl rfl rfl) (fun _ _ _ _ h => h)) (pa_cons pe_str (pa_cons (pe_tup (pa_cons (pv 0) (pa_cons (pv 1) (pa_cons (pv 2) (pa_cons (pv 3) pa_nil))))) pa_nil)))))), ?_⟩
    refine q_demand (by decide +kernel) (ev_cx (ea_cons (ev_var rfl) ea_nil) (sp_pred (f := operandV) (Opd.opv hl))) (fun h1 H1 e1 => ?_) (fun h1 => m.bad (by unfold badWhen; rw [if_neg (by rw [h1]; decide)]))
    refine q_demand (by decide +kernel) (ev_cx (ea_cons (ev_var rfl) ea_nil) (sp_pred (f := operandV) (Opd.opv hrr))) (fun h2 H2 e2 => ?_) (fun h2 => (m.ex e1).bad (by unfold badWhen; rw [if_pos h1, if_neg (by rw [h2]; decide)]))
    have e : badWhen l r y n = badInit (.cond l r y n) := by unfold badWhen; rw [if_pos h1, if_pos h2]
    rw [e] at m
    exact ret_make (p := .cond l r y n) ev_c (EvP.of (eu_tup (ea_cons (ev_var rfl) (ea_cons (ev_var rfl) (ea_cons (ev_var rfl) (ea_cons (ev_var rfl) ea_nil)))) (by show 4 ≤ 100000; decide)) (by show 4 ≤ 100; decide) ⟨b, c, rfl, hb.ex (e1.trans e2), hc.ex (e1.trans e2)⟩) (m.ex (e1.trans e2))
theorem scCall : FnScope ["name", "operands", "allowed", "part"] ["name", "operands"] (defScope (inClass (topS 26) 5)) := ⟨rfl, rfl, rfl, by decide +kernel, rfl, by decide +kernel, by decide +kernel⟩
theorem evp_call {σ : L2.St} {H : Hp} {z : Str} {u : Addr} {ops : List Opd} (h0 : σ[0]? = some (some (.str z))) (h1 : σ[1]? = some (some (.ref u))) (hu : OpsAt K H u ops) :
    EvP C (tTup (tCons (tVar 0) (tCons (tCB (fun xs H Q => ∃ p ys, xs = [V.ref p] ∧ ((SqL K H p ys ∧ ∀ l, H l = none → Q (.ref l) (upd H l (.tup ys))) ∨ SqT K H p ys ∧ Q (.ref p) H)) (tCons (tVar 1) tNil)) tNil))) σ H (.call z ops) := fun H1 e Q q => by
  rcases hu with hu | hu
  · refine ⟨_, h0, _, h1, u, ops.map Opd.v, rfl, .inl ⟨sq_of (e _ _ hu), fun l hl => ⟨(by show 2 ≤ sizeLine; decide), fun p hp => ?_⟩⟩⟩
    have hpl : l ≠ p := fun z => by rw [← z, upd_same] at hp; cases hp
    refine q p _ [.str z, .ref l] (fresh_back (Ex.new hl) hp) ((Ex.new hl).trans (Ex.new hp)) upd_same (by show 2 ≤ 100; decide) ⟨l, rfl, ?_⟩
    rw [upd_ne hpl]
    exact upd_same
  · refine ⟨_, h0, _, h1, u, ops.map Opd.v, rfl, .inr ⟨st_of (e _ _ hu), (by show 2 ≤ sizeLine; decide), fun p hp => ?_⟩⟩
    exact q p _ [.str z, .ref u] hp (Ex.new hp) upd_same (by show 2 ≤ 100; decide) ⟨u, rfl, Ex.new hp _ _ (e _ _ hu)⟩
theorem OpsAt.ex {H H' : Hp} {u : Addr} {ops : List Opd} (e : Ex H H') (h : OpsAt K H u ops) : OpsAt K H' u ops := h.imp (e _ _) (e _ _)
theorem ops_at {H : Hp} {ops : List Opd} (ho : ∀ o ∈ ops, o.ok) {i : Nat} {x y : V} (hx : (ops.map Opd.v)[i]? = some x) (hy : ((ops.map fun o => operandV o.v).map V.bl)[i]? = some y) : OpV x ∧ y = .bl (operandV x) := by
  rw [List.map_map, List.getElem?_map] at hy
  rw [List.getElem?_map] at hx
  cases hq : ops[i]? with
  | none =>
    rw [hq] at hx
    cases hx
  | some o =>
    rw [hq] at hx hy
    have ex : o.v = x := Option.some.inj hx
    have ey : V.bl (operandV o.v) = y := Option.some.inj hy
    subst ex
    exact ⟨Opd.opv (ho o (List.mem_of_getElem? hq)), ey.symm⟩
theorem ok_call {f : Addr} {fd : FuncData} (F : Fun K "call" "Process.call" (inClass (topS 26) 5) f fd) (M : MakT P w K mg base C CB k) : FnOk P w K mg base (L2.CX P w) (k + 1 + 1) f fd ["name", "operands"] (spCall K C CB) := by
  refine F.okX scCall (fun vs H Q E h => ?_) (fun cdv A outer s H vs Q E hr h => ?_)
  · obtain ⟨z, u, ops, rfl, _⟩ := h
    rfl
  · obtain ⟨z, u, ops, rfl, hz, hu, hl, ho, m⟩ := h
    have h3 := M.hk
    have bad1 : nameV (.str z) = false → Bad CB "name" H E := fun h1 => m.bad (by unfold badCall; rw [if_neg (by rw [show nameS z = false from h1]; decide)])
    have bad2 : nameV (.str z) = true → ∀ H1, Ex H H1 → opsOk ops = false → Bad CB "operands" H1 E := fun h1 H1 e1 h2 => (m.ex e1).bad (by unfold badCall; rw [if_pos (show nameS z = true from h1), if_neg (by rw [h2]; decide)])
    have good : nameV (.str z) = true → opsOk ops = true → ∀ H2, Ex H H2 → Made C CB (badInit (.call z ops)) (.call z ops) H2 Q E := fun h1 h2 H2 e2 => by
      have e : badCall z ops = badInit (.call z ops) := by unfold badCall; rw [if_pos (show nameS z = true from h1), if_pos h2]
      rw [e] at m
      exact m.ex e2
    have hlen : (ops.map Opd.v).length ≤ 40000 := by rw [List.length_map]; omega
    have hlen2 : ((ops.map fun o => operandV o.v).map V.bl).length = (ops.map Opd.v).length := by simp
    have hbs : ((((ops.map Opd.v).length : Nat) : Int)) = ((ops.length : Nat) : Int) := by rw [List.length_map]
    rcases hu with hu | hu
    · refine ⟨_, pss_cons (ps_expr (pe_cx (E := WE (fun cls d _ H => E cls d H)) M.dem hr (Nat.le_succ _) (by rfl) (fun σ => passAt (takes_of rfl rfl rfl rfl) σ) (pa_cons (pe_cx (E := fun _ => E0) M.name hr (by omega) (by rfl) at0 (pa_cons (pv 0) pa_nil)) (pa_cons pe_str pa_nil))))
        (pss_cons (ps_set (i := 2) scCall.nd rfl (Or.inl rfl) (pe_and (pe_cmpR op_le (pe_callB call_len_seq (by rfl) M.len PySem.boot_len (pa_cons (pv 1) pa_nil)) (C8.pe_gc (by rfl) M.mops) (nomark _)) (pe_one (pe_callB (cr_all rfl) (by rfl) M.all (by decide +kernel) (pa_cons
          (pe_lc (own := [("part", 3)]) (g := gName 3) (tt := tYes) (te := tCallS (spPred operandV) (fun _ => E0) (tCons (tVar 3) tNil)) rfl scCall.nd (pi_list (pv 1)) (blkOk_by (own := [("part", 3)]) (N := ["name", "operands", "allowed", "part"]) (sc := defScope (inClass (topS 26) 5)) (by decide +kernel))
            (fun _ _ _ _ _ => pg_name (i := 3) scCall.nd rfl (Or.inl rfl)) (fun _ _ _ _ _ => pts_nil) (fun _ _ _ _ _ => pe_cx (E := fun _ => E0) M.operand hr (by omega) (by rfl) at0 (pa_cons (pv 3) pa_nil))) pa_nil)))))
        (pss_cons (ps_expr (pe_cx (E := WE (fun cls d _ H => E cls d H)) M.dem hr (Nat.le_succ _) (by rfl) (fun σ => passAt (takes_of rfl rfl rfl rfl) σ) (pa_cons (pv 2) (pa_cons pe_str pa_nil))))
        (pss_one (ps_ret (pe_mx M.make hr (Nat.le_refl _) (by rfl) (passes_call (W := fun cls d _ H => E cls d H) (takes_of rfl rfl rfl rfl) (fun _ _ _ _ h => h)) (pa_cons pe_str (pa_cons (pe_tup (pa_cons (pv 0) (pa_cons (pe_callTy call_tuple_of (by rfl) M.tuple (by decide +kernel) (pa_cons (pv 1) pa_nil)) pa_nil))) pa_nil))))))), ?_⟩
      refine q_demand (by decide +kernel) (ev_cx (ea_cons (ev_var rfl) ea_nil) (sp_pred (f := nameV) (v := .str z) hz)) (fun h1 H1 e1 => ?_) bad1
      have hu1 := e1 _ _ hu
      refine q_asg (v := .bl (opsOk ops)) (ev_andV (ev_is (ev_op (ev_is (ev_cb (ea_cons (ev_var rfl) ea_nil) (fun H2 e2 Q' q' => ⟨u, _, rfl, .inl (sq_of (e2 _ _ hu1)), q' H2 (Ex.refl H2)⟩)) (by rw [hbs])) ev_c rv_I0) rfl) (fun _ => ev_all (bs := ops.map fun o => operandV o.v)
        (el_lcLy (ev_var rfl) (sq_of hu1) hlen (fun _ => rfl) hlen2 (fun i x y H2 e2 hx hy => ?_)))) (fun H2 e2 => ?_)
      · obtain ⟨a1, a2⟩ := ops_at (H := H) ho hx hy
        rw [a2]
        exact ev_cx (ea_cons (ev_var rfl) ea_nil) (sp_pred a1)
      · refine q_demand (by decide +kernel) (ev_var rfl) (fun h2 H3 e3 => ?_) (bad2 h1 H2 (e1.trans e2))
        exact ret_make (p := .call z ops) ev_c (evp_call rfl rfl (OpsAt.ex ((e1.trans e2).trans e3) (.inl hu))) (good h1 h2 H3 ((e1.trans e2).trans e3))
    · refine ⟨_, pss_cons (ps_expr (pe_cx (E := WE (fun cls d _ H => E cls d H)) M.dem hr (Nat.le_succ _) (by rfl) (fun σ => passAt (takes_of rfl rfl rfl rfl) σ) (pa_cons (pe_cx (E := fun _ => E0) M.name hr (by omega) (by rfl) at0 (pa_cons (pv 0) pa_nil)) (pa_cons pe_str pa_nil))))
        (pss_cons (ps_set (i := 2) scCall.nd rfl (Or.inl rfl) (pe_and (pe_cmpR op_le (pe_callB call_len_seq (by rfl) M.len PySem.boot_len (pa_cons (pv 1) pa_nil)) (C8.pe_gc (by rfl) M.mops) (nomark _)) (pe_one (pe_callB (cr_all rfl) (by rfl) M.all (by decide +kernel) (pa_cons
          (pe_lc (own := [("part", 3)]) (g := gName 3) (tt := tYes) (te := tCallS (spPred operandV) (fun _ => E0) (tCons (tVar 3) tNil)) rfl scCall.nd (pi_tup (pv 1)) (blkOk_by (own := [("part", 3)]) (N := ["name", "operands", "allowed", "part"]) (sc := defScope (inClass (topS 26) 5)) (by decide +kernel))
            (fun _ _ _ _ _ => pg_name (i := 3) scCall.nd rfl (Or.inl rfl)) (fun _ _ _ _ _ => pts_nil) (fun _ _ _ _ _ => pe_cx (E := fun _ => E0) M.operand hr (by omega) (by rfl) at0 (pa_cons (pv 3) pa_nil))) pa_nil)))))
        (pss_cons (ps_expr (pe_cx (E := WE (fun cls d _ H => E cls d H)) M.dem hr (Nat.le_succ _) (by rfl) (fun σ => passAt (takes_of rfl rfl rfl rfl) σ) (pa_cons (pv 2) (pa_cons pe_str pa_nil))))
        (pss_one (ps_ret (pe_mx M.make hr (Nat.le_refl _) (by rfl) (passes_call (W := fun cls d _ H => E cls d H) (takes_of rfl rfl rfl rfl) (fun _ _ _ _ h => h)) (pa_cons pe_str (pa_cons (pe_tup (pa_cons (pv 0) (pa_cons (pe_callTy call_tuple_of (by rfl) M.tuple (by decide +kernel) (pa_cons (pv 1) pa_nil)) pa_nil))) pa_nil))))))), ?_⟩
      refine q_demand (by decide +kernel) (ev_cx (ea_cons (ev_var rfl) ea_nil) (sp_pred (f := nameV) (v := .str z) hz)) (fun h1 H1 e1 => ?_) bad1
      have hu1 := e1 _ _ hu
      refine q_asg (v := .bl (opsOk ops)) (ev_andV (ev_is (ev_op (ev_is (ev_cb (ea_cons (ev_var rfl) ea_nil) (fun H2 e2 Q' q' => ⟨u, _, rfl, .inr (st_of (e2 _ _ hu1)), q' H2 (Ex.refl H2)⟩)) (by rw [hbs])) ev_c rv_I0) rfl) (fun _ => ev_all (bs := ops.map fun o => operandV o.v)
        (el_lcTy (ev_var rfl) (st_of hu1) hlen (fun _ => rfl) hlen2 (fun i x y H2 e2 hx hy => ?_)))) (fun H2 e2 => ?_)
      · obtain ⟨a1, a2⟩ := ops_at (H := H) ho hx hy
        rw [a2]
        exact ev_cx (ea_cons (ev_var rfl) ea_nil) (sp_pred a1)
      · refine q_demand (by decide +kernel) (ev_var rfl) (fun h2 H3 e3 => ?_) (bad2 h1 H2 (e1.trans e2))
        exact ret_make (p := .call z ops) ev_c (evp_call rfl rfl (OpsAt.ex ((e1.trans e2).trans e3) (.inr hu))) (good h1 h2 H3 ((e1.trans e2).trans e3))
def badOffer (z : Str) (s m : Int) (op : Opd) (ns : List Str) (r : Pr) : Option Str :=
  if nameS z = true then (if seatsV (.int m) = true then (if (decide (0 ≤ s) && decide (s < m)) = true then (if operandV op.v = true then (if (decide ((ns.length : Int) = m - 1) && namesS ns) = true then badInit (.choice (.cons z s m op ns r .nil)) else some "names") else some "operand") else some "seat") else some "seats") else some "channel"
def spOffer (C CB : Addr) : Sp := fun vs H Q E => ∃ (z : Str) (s m : Int) (op : Opd) (u : Addr) (ns : List Str) (b : Addr) (r : Pr), vs = [.str z, .int s, .int m, op.v, .ref u, .ref b] ∧ z.length ≤ 40000 ∧ op.ok ∧ NmsAt H u ns ∧ ns.length ≤ 90 ∧ (∀ y ∈ ns, y.length ≤ 40000) ∧ PrAt C H b r ∧
  Made C CB (badOffer z s m op ns r) (.choice (.cons z s m op ns r .nil)) H Q E
theorem scOffer : FnScope ["channel", "seat", "seats", "operand", "names", "rest"] ["channel", "seat", "seats", "operand", "names", "rest"] (defScope (inClass (topS 26) 2)) := ⟨rfl, rfl, rfl, by decide +kernel, rfl, by decide +kernel, by decide +kernel⟩
/-- the parts: one offer -/
theorem evp_offer {σ : L2.St} {H : Hp} {z : Str} {s m : Int} {op : Opd} {u b : Addr} {ns : List Str} {r : Pr} (h0 : σ[0]? = some (some (.str z))) (h1 : σ[1]? = some (some (.int s))) (h2 : σ[2]? = some (some (.int m))) (h3 : σ[3]? = some (some op.v)) (h4 : σ[4]? = some (some (.ref u))) (h5 : σ[5]? = some (some (.ref b)))
    (hu : NmsAt H u ns) (hb : PrAt C H b r) : EvP C (tTup (tCons (tTup (tCons (tVar 0) (tCons (tVar 1) (tCons (tVar 2) (tCons (tVar 3) (tCons (tCB (fun xs H Q => ∃ p ys, xs = [V.ref p] ∧ ((SqL K H p ys ∧ ∀ l, H l = none → Q (.ref l) (upd H l (.tup ys))) ∨ SqT K H p ys ∧ Q (.ref p) H)) (tCons (tVar 4) tNil)) (tCons (tVar 5) tNil)))))))
      tNil)) σ H (.choice (.cons z s m op ns r .nil)) := fun H1 e Q q => by
  have one : ∀ (l : Addr) (H2 : Hp), Ex H1 H2 → H2 l = some (.tup (ns.map V.str)) → ∀ o : Addr, H2 o = none → ∀ p : Addr, upd H2 o (.tup [.str z, .int s, .int m, op.v, .ref l, .ref b]) p = none → Q (.ref p) (upd (upd H2 o (.tup [.str z, .int s, .int m, op.v, .ref l, .ref b])) p (.tup [.ref o])) := fun l H2 e2 hl o ho p hp => by
    have e3 : Ex H2 (upd (upd H2 o (.tup [.str z, .int s, .int m, op.v, .ref l, .ref b])) p (.tup [.ref o])) := (Ex.new ho).trans (Ex.new hp)
    refine q p _ [.ref o] (fresh_back (e2.trans (Ex.new ho)) hp) (e2.trans e3) upd_same (by show 1 ≤ 100; decide) ?_
    show OfsAt C _ [.ref o] (.cons z s m op ns r .nil)
    unfold OfsAt
    exact ⟨o, l, b, [], rfl, Ex.new hp _ _ upd_same, e3 _ _ hl, hb.ex ((e.trans e2).trans e3), by unfold OfsAt; rfl⟩
  rcases hu with hu | hu
  · exact ⟨_, h0, _, h1, _, h2, _, h3, _, h4, u, ns.map V.str, rfl, .inl ⟨sq_of (e _ _ hu), fun l hl => ⟨_, h5, by show 6 ≤ sizeLine; decide, fun o ho => ⟨by show 1 ≤ sizeLine; decide, fun p hp => one l _ (Ex.new hl) upd_same o ho p hp⟩⟩⟩⟩
  · exact ⟨_, h0, _, h1, _, h2, _, h3, _, h4, u, ns.map V.str, rfl, .inr ⟨st_of (e _ _ hu), _, h5, by show 6 ≤ sizeLine; decide, fun o ho => ⟨by show 1 ≤ sizeLine; decide, fun p hp => one u _ (Ex.refl _) (e _ _ hu) o ho p hp⟩⟩⟩
theorem ok_offer {f : Addr} {fd : FuncData} (F : Fun K "offer" "Process.offer" (inClass (topS 26) 2) f fd) (M : MakT P w K mg base C CB k) : FnOk P w K mg base (L2.CX P w) (k + 1 + 1) f fd ["channel", "seat", "seats", "operand", "names", "rest"] (spOffer C CB) := by
  refine F.okX scOffer (fun vs H Q E h => ?_) (fun cdv A outer s H vs Q E hr h => ?_)
  · obtain ⟨z, s', m, op, u, ns, b, r, rfl, _⟩ := h
    rfl
  · obtain ⟨z, s', m, op, u, ns, b, r, rfl, hz, ho, hu, hl, hy, hb, md⟩ := h
    have h3 := M.hk
    have hlen : ∀ {H2 : Hp}, Ex H H2 → Ev (tCB (fun xs H Q => ∃ a ys, xs = [V.ref a] ∧ (SqL K H a ys ∨ SqT K H a ys) ∧ Q (.int (ys.length : Nat)) H) (tCons (tVar 4) tNil)) [some (.str z), some (.int s'), some (.int m), some op.v, some (.ref u), some (.ref b)] H2 (.int (ns.length : Int)) := fun e2 =>
      ev_is (ev_cb (ea_cons (ev_var rfl) ea_nil) (fun H5 e5 Q' q' => ⟨u, _, rfl, (hu.ex (e2.trans e5)).sq, q' H5 (Ex.refl H5)⟩)) (by rw [List.length_map])
    refine ⟨_, pss_cons (ps_expr (pe_cx (E := WE (fun cls d _ H => E cls d H)) M.dem hr (Nat.le_succ _) (by rfl) (fun σ => passAt (takes_of rfl rfl rfl rfl) σ) (pa_cons (pe_cx (E := fun _ => E0) M.name hr (by omega) (by rfl) at0 (pa_cons (pv 0) pa_nil)) (pa_cons pe_str pa_nil))))
      (pss_cons (ps_expr (pe_cx (E := WE (fun cls d _ H => E cls d H)) M.dem hr (Nat.le_succ _) (by rfl) (fun σ => passAt (takes_of rfl rfl rfl rfl) σ) (pa_cons (pe_cx (E := fun _ => E0) M.seats hr (by omega) (by rfl) at0 (pa_cons (pv 2) pa_nil)) (pa_cons pe_str pa_nil))))
      (pss_cons (ps_expr (pe_cx (E := WE (fun cls d _ H => E cls d H)) M.dem hr (Nat.le_succ _) (by rfl) (fun σ => passAt (takes_of rfl rfl rfl rfl) σ) (pa_cons (pe_and (pe_cx (E := fun _ => E0) M.int hr (by omega) (by rfl) at0 (pa_cons (pv 1) pa_nil)) (pe_one (pe_chain op_le op_lt pe_int (pv 1) (pv 2)))) (pa_cons pe_str pa_nil))))
      (pss_cons (ps_expr (pe_cx (E := WE (fun cls d _ H => E cls d H)) M.dem hr (Nat.le_succ _) (by rfl) (fun σ => passAt (takes_of rfl rfl rfl rfl) σ) (pa_cons (pe_cx (E := fun _ => E0) M.operand hr (by omega) (by rfl) at0 (pa_cons (pv 3) pa_nil)) (pa_cons pe_str pa_nil))))
      (pss_cons (ps_expr (pe_cx (E := WE (fun cls d _ H => E cls d H)) M.dem hr (Nat.le_succ _) (by rfl) (fun σ => passAt (takes_of rfl rfl rfl rfl) σ) (pa_cons (pe_and (pe_cmpR op_eq (pe_callB call_len_seq (by rfl) M.len PySem.boot_len (pa_cons (pv 4) pa_nil)) (pe_op op_sub (pv 2) pe_int) (nomark _)) (pe_one (pe_cx (E := fun _ => E0) M.names hr (by omega) (by rfl) at0 (pa_cons (pv 4) pa_nil)))) (pa_cons pe_str pa_nil))))
      (pss_one (ps_ret (pe_mx M.make hr (Nat.le_refl _) (by rfl) (passes_call (W := fun cls d _ H => E cls d H) (takes_of rfl rfl rfl rfl) (fun _ _ _ _ h => h)) (pa_cons pe_str (pa_cons (pe_tup (pa_cons (pe_tup (pa_cons (pv 0) (pa_cons (pv 1) (pa_cons (pv 2) (pa_cons (pv 3) (pa_cons (pe_callTy call_tuple_of (by rfl) M.tuple (by decide +kernel) (pa_cons (pv 4) pa_nil)) (pa_cons (pv 5) pa_nil))))))) pa_nil)) pa_nil))))))))), ?_⟩
    refine q_demand (by decide +kernel) (ev_cx (ea_cons (ev_var rfl) ea_nil) (sp_pred (f := nameV) (v := .str z) hz)) (fun h1 H1 e1 => ?_) (fun h1 => md.bad (by unfold badOffer; rw [if_neg (by rw [show nameS z = false from h1]; decide)]))
    have g1 : nameS z = true := h1
    refine q_demand (by decide +kernel) (ev_cx (ea_cons (ev_var rfl) ea_nil) (sp_pred (f := seatsV) (v := .int m) True.intro)) (fun h2 H2 e2 => ?_) (fun h2 => (md.ex e1).bad (by unfold badOffer; rw [if_pos g1, if_neg (by rw [h2]; decide)]))
    have x2 := e1.trans e2
    refine q_demand (b := decide (0 ≤ s') && decide (s' < m)) (by decide +kernel) (ev_andV (a := true) (ev_cx (ea_cons (ev_var rfl) ea_nil) (sp_pred (f := intV) (v := .int s') True.intro)) (fun _ => ev_chain ev_c (ev_var rfl) rv_I0 (fun _ => ev_var rfl) (fun _ => rv_I0))) (fun h4 H3 e3 => ?_) (fun h4 => (md.ex x2).bad (by unfold badOffer; rw [if_pos g1, if_pos h2, if_neg (by rw [h4]; decide)]))
    have x3 := x2.trans e3
    refine q_demand (by decide +kernel) (ev_cx (ea_cons (ev_var rfl) ea_nil) (sp_pred (f := operandV) (v := op.v) (Opd.opv ho))) (fun h5 H4 e4 => ?_) (fun h5 => (md.ex x3).bad (by unfold badOffer; rw [if_pos g1, if_pos h2, if_pos h4, if_neg (by rw [h5]; decide)]))
    have x4 := x3.trans e4
    refine q_demand (b := decide ((ns.length : Int) = m - 1) && namesS ns) (by decide +kernel) (ev_andV (ev_is (ev_op (hlen x4) (ev_op (ev_var rfl) ev_c rv_I0) (rv_eq rfl)) (congrArg V.bl (decide_eq_decide.mpr ⟨fun z => (V.int.inj z), fun z => congrArg V.int z⟩))) (fun _ => ev_cx (ea_cons (ev_var rfl) ea_nil) (fun H5 e5 Q' q' E' => ⟨u, ns, rfl, hu.ex (x4.trans e5), hl, hy, fun H6 e6 => q' H6 e6⟩)))
      (fun h6 H5 e5 => ?_) (fun h6 => (md.ex x4).bad (by unfold badOffer; rw [if_pos g1, if_pos h2, if_pos h4, if_pos h5, if_neg (by rw [h6]; decide)]))
    have x5 := x4.trans e5
    have e : badOffer z s' m op ns r = badInit (.choice (.cons z s' m op ns r .nil)) := by unfold badOffer; rw [if_pos g1, if_pos h2, if_pos h4, if_pos h5, if_pos h6]
    rw [e] at md
    exact ret_make (p := .choice (.cons z s' m op ns r .nil)) ev_c (evp_offer rfl rfl rfl rfl rfl rfl (hu.ex x5) (hb.ex x5)) (md.ex x5)
end
end Fs

set_option Elab.async false
set_option linter.all false
set_option maxRecDepth 100000
set_option maxHeartbeats 4000000
namespace Fs
open PySem L2 Evl FsE FsC FsR FsT
/-! ### sums of choices -/
def Ofs.app : Ofs → Ofs → Ofs
  | .nil, qs => qs
  | .cons c s m op ns r os, qs => .cons c s m op ns r (os.app qs)
def Pr.isCh : Pr → Bool
  | .choice _ => true
  | _ => false
def Pr.ofs : Pr → Ofs
  | .choice os => os
  | _ => .nil
theorem Pr.ch_eq {p : Pr} (h : p.isCh = true) : p = .choice p.ofs := by
  cases p <;> first | rfl | cases h
theorem kind_ch (p : Pr) : decide (V.str p.kind = V.str "choice") = p.isCh := by
  cases p with
  | choice os =>
    show decide (V.str ("choice" : Str) = V.str "choice") = true
    decide +kernel
  | new n k r =>
    show decide (V.str ("new" : Str) = V.str "choice") = false
    decide +kernel
  | cond l r y n =>
    show decide (V.str ("if" : Str) = V.str "choice") = false
    decide +kernel
  | call n ops =>
    show decide (V.str ("call" : Str) = V.str "choice") = false
    decide +kernel
theorem Ofs.app_nil : ∀ os : Ofs, os.app .nil = os
  | .nil => rfl
  | .cons c s m op ns r os => congrArg (Ofs.cons c s m op ns r) (Ofs.app_nil os)
theorem OfsAt.app {C : Addr} {H : Hp} : ∀ {os qs : Ofs} {xs ys : List V}, OfsAt C H xs os → OfsAt C H ys qs → OfsAt C H (xs ++ ys) (os.app qs)
  | .nil, qs, xs, ys, h, g => by
    unfold OfsAt at h
    subst h
    exact g
  | .cons c s m op ns r os, qs, xs, ys, h, g => by
    unfold OfsAt at h
    obtain ⟨o, u, b, zs, rfl, h1, h2, h3, h4⟩ := h
    show OfsAt C H (.ref o :: (zs ++ ys)) (.cons c s m op ns r (os.app qs))
    unfold OfsAt
    exact ⟨o, u, b, zs ++ ys, rfl, h1, h2, h3, OfsAt.app h4 g⟩
theorem Ofs.app_len : ∀ os qs : Ofs, (os.app qs).len = os.len + qs.len
  | .nil, qs => by
    show qs.len = 0 + qs.len
    omega
  | .cons c s m op ns r os, qs => by
    have ih := Ofs.app_len os qs
    show (os.app qs).len + 1 = os.len + 1 + qs.len
    omega
def badAdd (p r : Pr) : Option Str := if (p.isCh && r.isCh) = true then (if p.ofs.len + r.ofs.len ≤ 6 then badInit (.choice (p.ofs.app r.ofs)) else some "offers") else some "choice"
def spChoice (C : Addr) : Sp := fun vs H Q _ => ∃ (a : Addr) (p : Pr), vs = [.ref a] ∧ PrAt C H a p ∧ RetV (.bl p.isCh) H Q
def spAdd (C CB : Addr) : Sp := fun vs H Q E => ∃ (a b : Addr) (p r : Pr), vs = [.ref a, .ref b] ∧ PrAt C H a p ∧ PrAt C H b r ∧ p.ofs.len ≤ 40 ∧ r.ofs.len ≤ 40 ∧ Made C CB (badAdd p r) (.choice (p.ofs.app r.ofs)) H Q E
section
variable {P : Program} {w : World} {K : PySem.W.Frag} {mg : Str → Option Value} {base : Heap} {C CB : Addr}
/-- x = t1 + t2, two tuples -/
theorem q_cat {σ : L2.St} {H : Hp} {ta tb : TE} {t1 t2 : Addr} {xs ys : List V} {i : Nat} {tz : TS} {D : Ends} (h1 : Ev ta σ H (.ref t1)) (h2 : Ev tb σ H (.ref t2)) (g1 : H t1 = some (.tup xs)) (g2 : H t2 = some (.tup ys)) (hl : xs.length + ys.length ≤ 100000)
    (k : ∀ t H2, Ex H H2 → H2 t = some (.tup (xs ++ ys)) → tz D (σ.set i (some (.ref t))) H2) : tSeq (tAsg (tOp (rCatA K) ta tb) (gName i)) tz D σ H :=
  h1 H (Ex.refl H) _ fun H1 e1 => h2 H1 e1 _ fun H2 e2 => ⟨t1, t2, xs, ys, rfl, rfl, st_of ((e1.trans e2) _ _ g1), st_of ((e1.trans e2) _ _ g2), sz_of hl,
    fun hx => k t2 H2 (e1.trans e2) (by rw [hx]; exact (e1.trans e2) _ _ g2), fun _ hy => k t1 H2 (e1.trans e2) (by rw [hy, List.append_nil]; exact (e1.trans e2) _ _ g1), fun _ _ p hp => k p _ ((e1.trans e2).trans (Ex.new hp)) upd_same⟩
/-- Process(kind, parts), parts a name -/
theorem ret_makeV {σ : L2.St} {H : Hp} {tk : TE} {i : Nat} {p : Pr} {t : Addr} {ps : List V} {D : Ends} {E : XK} (hkd : Ev tk σ H (.str p.kind)) (hσ : σ[i]? = some (some (.ref t))) (ht : H t = some (.tup ps)) (hl : ps.length ≤ 100) (hP : PartsAt C H ps p) (m : Made C CB (badInit p) p H D.rt E) :
    tRet (tMake C (spInit C CB) [] E (tCons tk (tCons (tVar i) tNil))) D σ H :=
  hkd H (Ex.refl H) _ fun H1 e1 => ⟨_, hσ, fun x dx hx hdx hne => by
    have x0 : Ex H1 (upd (upd H1 dx (.own x)) x (.ins C dx [])) := by
      intro b o hb
      rw [upd_ne (ne_of_none hb hx), upd_ne (ne_of_none hb hdx)]
      exact hb
    refine ⟨x, dx, p, t, ps, H1, rfl, upd_same, hx, x0, e1 _ _ ht, hl, hP.ex e1, fun hb H' e' h' => ⟨rfl, ?_⟩, fun f hf => ((m.2 f hf).ex e1)⟩
    exact m.1 hb x H' (fresh_back e1 hx) (e1.trans e') (PrAt.mk ⟨dx, h'⟩ (e' _ _ (e1 _ _ ht)) ((hP.ex e1).ex e'))⟩
theorem scChoice : FnScope ["term"] ["term"] (defScope (topS 28)) := ⟨rfl, rfl, rfl, by decide +kernel, rfl, by decide +kernel, by decide +kernel⟩
theorem ok_is_choice {f : Addr} {fd : FuncData} (F : Fun K "is_choice" "is_choice" (topS 28) f fd) (B : BasT K mg) (T : TerT K mg C CB) : FnOk P w K mg base CX0 1 f fd ["term"] (spChoice C) := by
  refine F.ok scChoice (fun vs H Q E h => ?_) (fun cdv A outer s H vs Q E hr h => ?_)
  · obtain ⟨a, p, rfl, _⟩ := h
    rfl
  · obtain ⟨a, p, rfl, ha, q⟩ := h
    refine ⟨_, pss_one (ps_ret (pe_and (pe_callB (id := "isinstance") (r := rIsi K) call_isi (by rfl) B.isinst (by decide +kernel) (pa_cons (pv 0) (pa_cons (pe_glob (v := .ref C) (by rfl) T.mgC rfl) pa_nil))) (pe_one (pe_cmpR op_eq (pe_fld (pv 0) rfl) pe_str (nomark _))))), ?_⟩
    obtain ⟨t, ps, ⟨dx, h1⟩, _⟩ := ha.out
    refine s_ret (v := .bl p.isCh) (ev_is (ev_andV (a := true) (ev_cb (ea_cons (ev_var rfl) (ea_cons ev_c ea_nil)) (rc_isiOwn (tyx_pr T ha) kOwn)) (fun _ => ev_op (ev_fld (ev_var rfl) h1 T.cl T.nK pf_kind) ev_c (rv_eq rfl))) ?_) q
    rw [kind_ch]
    rfl
theorem scAdd : FnScope ["self", "other", "offers"] ["self", "other"] (defScope (inClass (topS 26) 7)) := ⟨rfl, rfl, rfl, by decide +kernel, rfl, by decide +kernel, by decide +kernel⟩
theorem ok_add {f : Addr} {fd : FuncData} {k : Nat} (F : Fun K "__add__" "Process.__add__" (inClass (topS 26) 7) f fd) (T : TerT K mg C CB) (M : MakT P w K mg base C CB k) (GI : CalX P w K mg base CX0 1 "is_choice" (spChoice C)) (mo : GC mg "MOST_OFFERS" (.int 6)) : FnOk P w K mg base (L2.CX P w) (k + 1 + 1) f fd ["self", "other"] (spAdd C CB) := by
  refine F.okX scAdd (fun vs H Q E h => ?_) (fun cdv A outer s H vs Q E hr h => ?_)
  · obtain ⟨a, b, p, r, rfl, _⟩ := h
    rfl
  · obtain ⟨a, b, p, r, rfl, ha, hb, lp, lr, md⟩ := h
    have h3 := M.hk
    refine ⟨_, pss_cons (ps_expr (pe_cx (E := WE (fun cls d _ H => E cls d H)) M.dem hr (Nat.le_succ _) (by rfl) (fun σ => passAt (takes_of rfl rfl rfl rfl) σ) (pa_cons (pe_and (pe_cx (E := fun _ => E0) GI hr (by omega) (by rfl) at0 (pa_cons (pv 0) pa_nil)) (pe_one (pe_cx (E := fun _ => E0) GI hr (by omega) (by rfl) at0 (pa_cons (pv 1) pa_nil)))) (pa_cons pe_str pa_nil))))
      (pss_cons (ps_set (i := 2) scAdd.nd rfl (Or.inl rfl) (pe_op op_catA (pe_fld (pv 0) rfl) (pe_fld (pv 1) rfl)))
      (pss_cons (ps_expr (pe_cx (E := WE (fun cls d _ H => E cls d H)) M.dem hr (Nat.le_succ _) (by rfl) (fun σ => passAt (takes_of rfl rfl rfl rfl) σ) (pa_cons (pe_cmpR op_le (pe_callB call_len_seq (by rfl) M.len PySem.boot_len (pa_cons (pv 2) pa_nil)) (C8.pe_gc (by rfl) mo) (nomark _)) (pa_cons pe_str pa_nil))))
      (pss_one (ps_ret (pe_mx M.make hr (Nat.le_refl _) (by rfl) (passes_call (W := fun cls d _ H => E cls d H) (takes_of rfl rfl rfl rfl) (fun _ _ _ _ h => h)) (pa_cons pe_str (pa_cons (pv 2) pa_nil))))))), ?_⟩
    refine q_demand (b := p.isCh && r.isCh) (by decide +kernel) (ev_andV (ev_cx (ea_cons (ev_var rfl) ea_nil) (fun H1 e1 Q' q' E' => ⟨a, p, rfl, ha.ex e1, fun H2 e2 => q' H2 e2⟩)) (fun _ => ev_cx (ea_cons (ev_var rfl) ea_nil) (fun H1 e1 Q' q' E' => ⟨b, r, rfl, hb.ex e1, fun H2 e2 => q' H2 e2⟩))) (fun h1 H1 e1 => ?_) (fun h1 => md.bad (by unfold badAdd; rw [if_neg (by rw [h1]; decide)]))
    have hpc : p.isCh = true := (Bool.and_eq_true_iff.mp h1).1
    have hrc : r.isCh = true := (Bool.and_eq_true_iff.mp h1).2
    have ha1 : PrAt C H1 a (.choice p.ofs) := Pr.ch_eq hpc ▸ ha.ex e1
    have hb1 : PrAt C H1 b (.choice r.ofs) := Pr.ch_eq hrc ▸ hb.ex e1
    obtain ⟨t1, xs, ⟨dx, g1⟩, g2, g3⟩ := ha1.out
    obtain ⟨t2, ys, ⟨dy, j1⟩, j2, j3⟩ := hb1.out
    have g3' : OfsAt C H1 xs p.ofs := g3
    have j3' : OfsAt C H1 ys r.ofs := j3
    have l1 := g3'.len
    have l2 := j3'.len
    have hob : badAdd p r = if p.ofs.len + r.ofs.len ≤ 6 then badInit (.choice (p.ofs.app r.ofs)) else some "offers" := by unfold badAdd; rw [if_pos h1]
    rw [hob] at md
    refine q_cat (ev_fld (ev_var rfl) g1 T.cl T.nP pf_parts) (ev_fld (ev_var rfl) j1 T.cl T.nP pf_parts) g2 j2 (by omega) (fun t H2 e2 ht => ?_)
    have hlen : (((xs ++ ys).length : Nat) : Int) = ((p.ofs.len + r.ofs.len : Nat) : Int) := by rw [List.length_append, l1, l2]
    refine q_demand (b := decide (((p.ofs.len + r.ofs.len : Nat) : Int) ≤ 6)) (by decide +kernel) (ev_op (ev_is (ev_cb (ea_cons (ev_var rfl) ea_nil) (fun H3 e3 Q' q' => ⟨t, _, rfl, .inr (st_of (e3 _ _ ht)), q' H3 (Ex.refl H3)⟩)) (by rw [hlen])) ev_c rv_I0) (fun h2 H3 e3 => ?_) (fun h2 => ?_)
    · have h2' : p.ofs.len + r.ofs.len ≤ 6 := by
        have : (((p.ofs.len + r.ofs.len : Nat) : Int)) ≤ 6 := by simpa using h2
        omega
      rw [if_pos h2'] at md
      have x3 := (e1.trans e2).trans e3
      exact ret_makeV (p := .choice (p.ofs.app r.ofs)) ev_c rfl (e3 _ _ ht) (by rw [List.length_append]; omega) (OfsAt.app (g3'.ex (e2.trans e3)) (j3'.ex (e2.trans e3))) (md.ex x3)
    · have h2' : ¬ p.ofs.len + r.ofs.len ≤ 6 := by
        have : ¬ (((p.ofs.len + r.ofs.len : Nat) : Int)) ≤ 6 := by simpa using h2
        omega
      rw [if_neg h2'] at md
      exact (md.ex (e1.trans e2)).bad rfl
end
end Fs

set_option Elab.async false
set_option linter.all false
set_option maxRecDepth 100000
set_option maxHeartbeats 2000000
namespace Fs
open PySem L2 Evl FsE FsC
structure LawT (K : PySem.W.Frag) (mg : Str → Option Value) : Prop where
  len : mg "len" = none
  int : mg "int" = none
  abs : mg "abs" = none
  range : mg "range" = none
section
variable {P : Program} {w : World} {K : PySem.W.Frag} {mg : Str → Option Value} {base : Heap}
theorem rc_int {K : PySem.W.Frag} {i : Int} {H : Hp} : RC (fun xs H Q => (∃ i, xs = [V.int i] ∧ Q (.int i) H) ∨ ∃ k, xs = [V.bl k] ∧ Q (.int (if k then 1 else 0)) H) [.int i] H (.int i) := fun H1 _ Q q => .inl ⟨i, rfl, q H1 (Ex.refl H1)⟩
/-- _law_cell_at(script, k): some int -/
def spCellAt (K : PySem.W.Frag) : Sp := fun vs H Q _ => ∃ (a : Addr) (ns : List Int) (k : Nat), vs = [.ref a, .int (k : Int)] ∧ SqL K H a (ns.map V.int) ∧ ∀ i : Int, RetV (.int i) H Q
theorem scCellAt : FnScope ["_law_script", "_law_k"] ["_law_script", "_law_k"] (defScope (topS 38)) := ⟨rfl, rfl, rfl, by decide +kernel, rfl, by decide +kernel, by decide +kernel⟩
theorem ok_cell_at {f : Addr} {fd : FuncData} (F : Fun K "_law_cell_at" "_law_cell_at" (topS 38) f fd) (T : LawT K mg) : FnOk P w K mg base CX0 1 f fd ["_law_script", "_law_k"] (spCellAt K) := by
  refine F.ok scCellAt (fun vs H Q E h => ?_) (fun cdv A outer s H vs Q E hr h => ?_)
  · obtain ⟨a, ns, k, rfl, _⟩ := h
    rfl
  · obtain ⟨a, ns, k, rfl, hS, q⟩ := h
    refine ⟨_, pss_cons (ps_if (pt_cmpR op_lt (pv 1) (pe_callB call_len_seq (by rfl) T.len PySem.boot_len (pa_cons (pv 0) pa_nil)) (nomark _)) (pss_one (ps_ret (pe_ix ix_list (pv 0) (pv 1) (fun _ _ => rfl)))) pss_nil) (pss_one (ps_ret pe_int)), ?_⟩
    refine q_when (b := decide ((k : Int) < ((ns.map V.int).length : Nat))) (et_test (ev_op (ev_var rfl) (ev_cb (ea_cons (ev_var rfl) ea_nil) (fun H2 e2 Q' q' => ⟨a, _, rfl, .inl (ex_l e2 hS), q' H2 (Ex.refl H2)⟩)) rv_I0)) (fun hb H1 e1 => ?_) (fun hb H1 e1 => ?_)
    · have hk : k < ns.length := by
        have : (k : Int) < ((ns.map V.int).length : Nat) := by simpa using hb
        rw [List.length_map] at this
        omega
      refine s_ret (v := .int ns[k]) (ev_op (ev_var rfl) (ev_var rfl) (rv_ixL (ex_l e1 hS) (atI_nat (by rw [List.getElem?_map, List.getElem?_eq_getElem hk]; rfl)))) (fun H2 e2 => q _ H2 (e1.trans e2))
    · exact s_ret ev_c (fun H2 e2 => q _ H2 (e1.trans e2))
/-- _law_mixed(cell, k): some int -/
def spMixed : Sp := fun vs H Q _ => ∃ (c : Int) (k : Nat), vs = [.int c, .int (k : Int)] ∧ k ≤ 1000 ∧ ∀ i : Int, RetV (.int i) H Q
theorem scMixed : FnScope ["_law_cell", "_law_k"] ["_law_cell", "_law_k"] (defScope (topS 39)) := ⟨rfl, rfl, rfl, by decide +kernel, rfl, by decide +kernel, by decide +kernel⟩
theorem ok_mixed {f : Addr} {fd : FuncData} (F : Fun K "_law_mixed" "_law_mixed" (topS 39) f fd) (T : LawT K mg) : FnOk P w K mg base CX0 1 f fd ["_law_cell", "_law_k"] spMixed := by
  refine F.ok scMixed (fun vs H Q E h => ?_) (fun cdv A outer s H vs Q E hr h => ?_)
  · obtain ⟨c, k, rfl, _⟩ := h
    rfl
  · obtain ⟨c, k, rfl, hk, q⟩ := h
    refine ⟨_, pss_one (ps_ret (pe_op op_mod (pe_op op_mul (pe_callTy call_int1 (by rfl) T.int (by decide +kernel) (pa_cons (pe_op op_add (pe_op op_mod (pe_op op_pow (pe_op op_add (pe_op op_add (pe_op op_mod (pe_callTy call_int1 (by rfl) T.int (by decide +kernel) (pa_cons (pv 0) pa_nil)) pe_int) (pe_op op_mul pe_int (pv 1))) pe_int) pe_int) pe_int) (pv 1)) pa_nil)) pe_int) pe_int)), ?_⟩
    have h1 := Int.emod_nonneg c (b := 2147483647) (by decide)
    have h2 := Int.emod_lt_of_pos c (b := 2147483647) (by decide)
    refine ⟨.int c, rfl, .inl ⟨c, rfl, c, 2147483647, rfl, rfl, (by decide : (0 : Int) < 2147483647), ?_⟩⟩
    refine ⟨.int (k : Int), rfl, 7919, (k : Int), rfl, rfl, .inl ⟨by decide, by decide⟩, ?_⟩
    refine ⟨c % 2147483647, 7919 * (k : Int), rfl, rfl, c % 2147483647 + 7919 * (k : Int), 104729, rfl, rfl, ?_⟩
    refine ⟨c % 2147483647 + 7919 * (k : Int) + 104729, 5, rfl, rfl, ⟨by decide, by decide, by omega⟩, ?_⟩
    refine ⟨_, 2147483647, rfl, rfl, (by decide : (0 : Int) < 2147483647), ?_⟩
    refine ⟨.int (k : Int), rfl, _, (k : Int), rfl, rfl, .inl ⟨_, rfl, _, 40692, rfl, rfl, .inr ⟨by decide, by decide⟩, ?_⟩⟩
    refine ⟨_, 2147483629, rfl, rfl, (by decide : (0 : Int) < 2147483629), ?_⟩
    exact q _ H (Ex.refl H)
/-- _law_row(cell, many): so many ints from 0 to 999 -/
def RowOk (row : List Int) : Prop := ∀ v ∈ row, 0 ≤ v ∧ v < 1000
def spRow : Sp := fun vs H Q _ => ∃ (c : Int) (n : Nat), vs = [.int c, .int (n : Int)] ∧ n ≤ 500 ∧ ∀ row : List Int, row.length = n → RowOk row → RetL (row.map V.int) H Q
theorem scRow : FnScope ["_law_cell", "_law_many", "_law_row_here", "_law_rest", "_law_k"] ["_law_cell", "_law_many"] (defScope (topS 40)) := ⟨rfl, rfl, rfl, by decide +kernel, rfl, by decide +kernel, by decide +kernel⟩
theorem rowOk_add {row : List Int} {v : Int} (h : RowOk row) (h0 : 0 ≤ v) (h1 : v < 1000) : RowOk (row ++ [v]) := fun x hx => by
  rcases List.mem_append.mp hx with hx | hx
  · exact h x hx
  · rw [List.mem_singleton.mp hx]
    exact ⟨h0, h1⟩
theorem ok_row {f : Addr} {fd : FuncData} (F : Fun K "_law_row" "_law_row" (topS 40) f fd) (T : LawT K mg) (GM : CalX P w K mg base CX0 1 "_law_mixed" spMixed) : FnOk P w K mg base CX0 2 f fd ["_law_cell", "_law_many"] spRow := by
  refine F.ok scRow (fun vs H Q E h => ?_) (fun cdv A outer s H vs Q E hr h => ?_)
  · obtain ⟨c, n, rfl, _⟩ := h
    rfl
  · obtain ⟨c, n, rfl, hn, q⟩ := h
    refine ⟨_, pss_cons (ps_set (i := 2) scRow.nd rfl (Or.inl rfl) (pe_lst pa_nil))
      (pss_cons (ps_set (i := 3) scRow.nd rfl (Or.inl rfl) pe_int)
      (pss_cut (ps_if (pt_cmpR op_ge (pe_callB call_abs (by rfl) T.abs (by decide +kernel) (pa_cons (pv 0) pa_nil)) (pe_op op_pow pe_int pe_int) (nomark _)) (pss_one (ps_set (i := 3) scRow.nd rfl (Or.inl rfl) (pe_callB call_abs (by rfl) T.abs (by decide +kernel) (pa_cons (pv 0) pa_nil)))) pss_nil)
      (pss_cons (ps_for PassesOwn.never rfl (pi_range1 rfl T.range (pa_cons (pv 1) pa_nil)) (pg_name (i := 4) scRow.nd rfl (Or.inl rfl))
        (pss_one (ps_if (pt_cmpR op_gt (pv 3) pe_int (nomark _))
          (pss_cons (ps_expr (pe_bm PySem.F.plainAttrs_list PySem.F.slot_list_append PySem.F.type_list_append mt_append (pv 2) (pa_cons (pe_op op_mod (pe_callTy call_int1 (by rfl) T.int (by decide +kernel) (pa_cons (pv 3) pa_nil)) pe_int) pa_nil)))
            (pss_one (ps_set (i := 3) scRow.nd rfl (Or.inl rfl) (pe_op op_fdiv (pv 3) pe_int))))
          (pss_one (ps_expr (pe_bm PySem.F.plainAttrs_list PySem.F.slot_list_append PySem.F.type_list_append mt_append (pv 2) (pa_cons (pe_op op_mod (pe_callTy call_int1 (by rfl) T.int (by decide +kernel) (pa_cons (pe_cx (E := fun _ => E0) GM hr (by decide) (by rfl) at0 (pa_cons (pv 0) (pa_cons (pv 4) pa_nil))) pa_nil)) pe_int) pa_nil)))))))
      (pss_one (ps_ret (pv 2)))))), ?_⟩
    refine q_asgL (xs := []) (el_lst ea_nil (by decide)) (fun l H1 hl e1 h1 => ?_)
    refine q_asg (v := .int 0) ev_c (fun H2 e2 => ?_)
    refine q_cut (M := fun σ' H' => ∃ r : Int, σ' = [some (.int c), some (.int (n : Int)), some (.ref l), some (.int r), none] ∧ Ex H H' ∧ H' l = some (.lst [])) ?_ (fun σ3 H3 ⟨r, hσ3, e3, h3⟩ => ?_)
    · refine s_when (b := decide ((10 : Int) ^ (18 : Int).toNat ≤ if c < 0 then -c else c)) (et_test (ev_op (ev_cb (ea_cons (ev_var rfl) ea_nil) (fun H4 _ Q' q' => ⟨c, rfl, q' H4 (Ex.refl H4)⟩)) (ev_op ev_c ev_c (rv_I ⟨by decide, by decide, by decide⟩)) rv_I0)) (fun hb H3 e3 => ?_) (fun hb H3 e3 => ?_)
      · exact s_asg (ev_cb (ea_cons (ev_var rfl) ea_nil) (fun H4 _ Q' q' => ⟨c, rfl, q' H4 (Ex.refl H4)⟩)) (fun H4 e4 => ⟨_, rfl, ((e1.trans e2).trans e3).trans e4, (e2.trans (e3.trans e4)) _ _ h1⟩)
      · exact ⟨0, rfl, (e1.trans e2).trans e3, (e2.trans e3) _ _ h1⟩
    · subst hσ3
      refine q_forR1 (n := (n : Int)) (ea_cons (ev_var rfl) ea_nil) (by omega) (fun i σ' H' => ∃ (row : List Int) (rest : Int) (v4 : Option V), σ' = [some (.int c), some (.int (n : Int)), some (.ref l), some (.int rest), v4] ∧ H' l = some (.lst (row.map V.int)) ∧ row.length = i ∧ RowOk row ∧ Ex H H')
        (fun H4 e4 => ⟨[], r, none, rfl, e4 _ _ h3, rfl, (fun v hv => nomatch hv), e3.trans e4⟩) (fun i σ' H' hi ⟨row, rest, v4, hσ, hl', hlen, hrow, he⟩ => ?_) (fun σ' H' ⟨row, rest, v4, hσ, hl', hlen, hrow, he⟩ => ?_)
      · subst hσ
        have hsz : (row.map V.int).length < 100000 := by rw [List.length_map]; omega
        have app : ∀ v : Int, row.map V.int ++ [V.int v] = (row ++ [v]).map V.int := fun v => by rw [List.map_append]; rfl
        refine s_if (b := decide (0 < rest)) (et_test (ev_op (ev_var rfl) ev_c rv_I0)) (fun hb H4 e4 => ?_) (fun hb H4 e4 => ?_)
        · refine q_app (xs := row.map V.int) (v := .int (rest % 1000)) (e4 _ _ hl') (ev_var rfl) (ev_op (x := .int rest) (ev_cb (ea_cons (ev_var rfl) ea_nil) (rc_int (K := K))) ev_c (rv_I (by decide))) hsz (fun H5 e5 => ?_)
          refine s_asg (ev_op (x := .int rest) (ev_var rfl) ev_c (rv_I ⟨by decide, by decide⟩)) (fun H6 e6 => ?_)
          refine ⟨row ++ [rest % 1000], _, _, rfl, e6 _ _ (by rw [← app]; exact upd_same), (by rw [List.length_append, hlen]; rfl), rowOk_add hrow (Int.emod_nonneg _ (by decide)) (Int.emod_lt_of_pos _ (by decide)), (Ex.mut ((he.trans e4).trans e5) hl).trans e6⟩
        · refine ⟨_, rfl, .inl ⟨rfl, _, sq_of (e4 _ _ hl')⟩, _, rfl, _, rfl, c, i, rfl, by omega, fun m H5 e5 => .inl ⟨m, rfl, m, 1000, rfl, rfl, (by decide : (0 : Int) < 1000), l, row.map V.int, .int (m % 1000), rfl, rfl, (e4.trans e5) _ _ hl', sz_lt hsz, ?_⟩⟩
          refine ⟨row ++ [m % 1000], _, _, rfl, (by rw [← app]; exact upd_same), (by rw [List.length_append, hlen]; rfl), rowOk_add hrow (Int.emod_nonneg _ (by decide)) (Int.emod_lt_of_pos _ (by decide)), Ex.mut ((he.trans e4).trans e5) hl⟩
      · subst hσ
        have hn' : row.length = n := by simpa using hlen
        refine s_ret (ev_var rfl) (fun H4 e4 => q row hn' hrow l H4 hl (he.trans e4) (e4 _ _ hl'))
end
end Fs

set_option Elab.async false
set_option linter.all false
set_option maxRecDepth 100000
set_option maxHeartbeats 4000000
namespace Fs
open PySem L2 Evl FsE FsC FsR FsT FsK
theorem op_mulS {X : Cx} : OpR X (binaryOp .Mult) (fun x y H Q => ∃ (a : Str) (n : Int), x = .str a ∧ y = .int n ∧ MulOk a n ∧ Q (.str (Txt.mul a n)) H) := by
  intro pins s σ H x y v u Q I rx ry h
  obtain ⟨a, n, rfl, rfl, hm, q⟩ := h
  obtain ⟨t, rfl⟩ := rx
  obtain ⟨t', rfl⟩ := ry
  exact SB.mul hm (fun t' k => ⟨.str (Txt.mul a n), H, I.tok _, ⟨_, rfl⟩, q⟩)
theorem at_of {α : Type} {xs : List α} {i : Int} (h0 : 0 ≤ i) (h1 : i < xs.length) : ∃ x, x ∈ xs ∧ atI xs i = some x := by
  obtain ⟨j, rfl⟩ : ∃ j : Nat, i = (j : Int) := ⟨i.toNat, by omega⟩
  have hj : j < xs.length := by omega
  exact ⟨xs[j], List.getElem_mem hj, atI_nat (List.getElem?_eq_getElem hj)⟩
theorem rv_cat {x y : Str} {H : Hp} (h : x.length + y.length ≤ 100000) : RV (fun x y H Q => ∃ i j, x = V.str i ∧ y = V.str j ∧ i.length + j.length ≤ sizeLine ∧ Q (.str (i ++ j)) H) (.str x) (.str y) H (.str (x ++ y)) := fun H1 _ Q q => ⟨x, y, rfl, rfl, sz_of h, q H1 (Ex.refl H1)⟩
/-- the law's words are names -/
structure WordOk (z : Str) : Prop where
  nm : nameS z = true
  len : z.length ≤ 8
  ok : PyData.strOk z = true
def wordB (z : Str) : Bool := nameS z && decide (z.length ≤ 8) && PyData.strOk z
theorem wordB_ok {z : Str} (h : wordB z = true) : WordOk z := by
  unfold wordB at h
  obtain ⟨h, h3⟩ := Bool.and_eq_true_iff.mp h
  obtain ⟨h1, h2⟩ := Bool.and_eq_true_iff.mp h
  exact ⟨h1, of_decide_eq_true h2, h3⟩
theorem w_1 : ∀ c ∈ lettersS.cps.toList, wordB ⟨#[c]⟩ = true := by decide +kernel
theorem dig_no : ∀ e ∈ digitsS.cps.toList, signOk e = true ∧ e < 0x110000 ∧ e ∉ lettersS.cps.toList := by decide +kernel
theorem let_no : ∀ c ∈ lettersS.cps.toList, signOk c = true ∧ c < 0x110000 := by decide +kernel
theorem res_let : ∀ v ∈ reservedV, (match v with | .str w => w.cps.toList.all (fun c => decide (c ∈ lettersS.cps.toList)) | _ => false) = true := by
  unfold reservedV
  intro v hv
  simp only [List.mem_cons, List.not_mem_nil, or_false] at hv
  rcases hv with rfl | rfl | rfl | rfl | rfl | rfl | rfl | rfl | rfl | rfl | rfl
  all_goals decide +kernel
/-- a text with a sign that is no letter is no reserved word -/
theorem not_res {z : Str} {e : Nat} (he : e ∈ z.cps.toList) (hn : e ∉ lettersS.cps.toList) : inV (.str z) reservedV = false := by
  refine Bool.eq_false_iff.mpr fun h => ?_
  unfold inV at h
  obtain ⟨y, hy, hq⟩ := List.any_eq_true.mp h
  have hl := res_let y hy
  cases y with
  | str w =>
    have hw : w = z := eq_of_beq (show (w == z) = true from hq)
    subst hw
    exact hn (of_decide_eq_true (List.all_eq_true.mp hl e he))
  | _ => cases hl
theorem w_3 : ∀ c ∈ lettersS.cps.toList, ∀ d ∈ lettersS.cps.toList, ∀ e ∈ digitsS.cps.toList, wordB ((⟨#[c]⟩ : Str) ++ (⟨#[d]⟩ : Str) ++ (⟨#[e]⟩ : Str)) = true := fun c hc d hd e he => by
  show wordB ⟨#[c, d, e]⟩ = true
  obtain ⟨e1, e2, e3⟩ := dig_no e he
  obtain ⟨c1, c2⟩ := let_no c hc
  obtain ⟨d1, d2⟩ := let_no d hd
  have hr : inV (.str ⟨#[c, d, e]⟩) reservedV = false := not_res (e := e) (by simp) e3
  have hn : nameS ⟨#[c, d, e]⟩ = true := by
    unfold nameS
    rw [hr]
    show (decide (1 ≤ 3) && decide (3 ≤ 8) && decide (c ∈ lettersS.cps.toList) && !false && (signOk c && (signOk d && (signOk e && true)))) = true
    rw [decide_eq_true hc, c1, d1, e1]
    rfl
  have hs : PyData.strOk ⟨#[c, d, e]⟩ = true := by
    show (#[c, d, e] : Array Nat).all (· < 0x110000) = true
    simp [c2, d2, e2]
  unfold wordB
  rw [hn, hs]
  rfl
theorem w_8 : ∀ c ∈ lettersS.cps.toList, ∀ e ∈ digitsS.cps.toList, wordB (Txt.mul (⟨#[c]⟩ : Str) 7 ++ (⟨#[e]⟩ : Str)) = true := by decide +kernel
def spWord : Sp := fun vs H Q _ => ∃ d : Int, vs = [.int d] ∧ ∀ z, WordOk z → RetV (.str z) H Q
end Fs

set_option Elab.async false
set_option linter.all false
set_option maxRecDepth 100000
set_option maxHeartbeats 8000000
namespace Fs
open PySem L2 Evl FsE FsC FsR FsT FsK
theorem r_call {σ : L2.St} {H : Hp} {ta : TA} {vs : List V} {sp : Sp} {E : L2.St → XK} {D : Ends} (h : EvA ta σ H vs) (k : ∀ H1, Ex H H1 → sp vs H1 D.rt (E σ)) : tRet (tCallS sp E ta) D σ H := h H (Ex.refl H) _ fun H1 e1 => k H1 e1
theorem row_getN {row : List Int} {n i : Nat} (hl : row.length = n) (hr : RowOk row) (hi : i < n) : ∃ v, atI (row.map V.int) (i : Int) = some (.int v) ∧ 0 ≤ v ∧ v < 1000 := by
  have h : i < row.length := by omega
  refine ⟨row[i], atI_nat (by rw [List.getElem?_map, List.getElem?_eq_getElem h]; rfl), ?_⟩
  exact hr _ (List.getElem_mem h)
/-- an operand that is allowed -/
def OpdOk : Opd → Prop
  | .int i => -(10 ^ 30) < i ∧ i < 10 ^ 30
  | .nm z => WordOk z
theorem opdOk_v {o : Opd} (h : OpdOk o) : operandV o.v = true := by
  cases o with
  | int i =>
    show (decide (-(10 ^ 30) < i) && decide (i < 10 ^ 30) || false) = true
    rw [decide_eq_true h.1, decide_eq_true h.2]
    rfl
  | nm z =>
    show (false || nameS z) = true
    rw [Bool.false_or]
    exact h.nm
theorem opdOk_ok {o : Opd} (h : OpdOk o) : o.ok := by
  cases o with
  | int i => exact True.intro
  | nm z =>
    show z.length ≤ 40000
    have := h.len
    omega
def spWordX : Sp := fun vs H Q _ => ∃ d : Int, vs = [.int d] ∧ ∀ z, WordOk z → (d / 26 % 3 = 0 → ∃ c ∈ lettersS.cps.toList, z = ⟨#[c]⟩) → RetV (.str z) H Q
def spOperand : Sp := fun vs H Q _ => ∃ d : Int, vs = [.int d] ∧ 0 ≤ d ∧ d < 1000 ∧ ∀ o, OpdOk o → RetV o.v H Q
theorem bigL {x : V} {i : Int} (h0 : 0 ≤ i) (h1 : i < 1000) (h : x ∈ [V.int ((10 : Int) ^ (30 : Int).toNat - 1), .int (1 - (10 : Int) ^ (30 : Int).toNat), .int ((10 : Int) ^ (29 : Int).toNat), .int 0, .int (100 - i)]) : ∃ o : Opd, x = o.v ∧ OpdOk o := by
  simp only [List.mem_cons, List.not_mem_nil, or_false] at h
  rcases h with h | h | h | h | h
  · exact ⟨.int _, h, by decide, by decide⟩
  · exact ⟨.int _, h, by decide, by decide⟩
  · exact ⟨.int _, h, by decide, by decide⟩
  · exact ⟨.int _, h, by decide, by decide⟩
  · refine ⟨.int _, h, ?_, ?_⟩ <;> omega
section
variable {P : Program} {w : World} {K : PySem.W.Frag} {mg : Str → Option Value} {base : Heap} {C CB : Addr}
theorem scWord : FnScope ["_law_draw", "_law_letters", "_law_word_here"] ["_law_draw"] (defScope (topS 41)) := ⟨rfl, rfl, rfl, by decide +kernel, rfl, by decide +kernel, by decide +kernel⟩
theorem ok_word {f : Addr} {fd : FuncData} (F : Fun K "_law_word" "_law_word" (topS 41) f fd) (L : LawT K mg) : FnOk P w K mg base CX0 1 f fd ["_law_draw"] spWordX := by
  refine F.ok scWord (fun vs H Q E h => ?_) (fun cdv A outer s H vs Q E hr h => ?_)
  · obtain ⟨d, rfl, _⟩ := h
    rfl
  · obtain ⟨d, rfl, q⟩ := h
    refine ⟨_, pss_cons (ps_set (i := 1) scWord.nd rfl (Or.inl rfl) pe_str)
      (pss_cons (ps_set (i := 2) scWord.nd rfl (Or.inl rfl) (pe_ix ix_str (pv 1) (pe_op op_mod (pe_callTy call_int1 (by rfl) L.int (by decide +kernel) (pa_cons (pv 0) pa_nil)) pe_int) (fun _ _ => rfl)))
      (pss_cut (ps_if (pt_cmpR op_eq (pe_op op_mod (pe_op op_fdiv (pv 0) pe_int) pe_int) pe_int (nomark _)) (pss_one (ps_set (i := 2) scWord.nd rfl (Or.inl rfl) (pe_op op_add_str (pe_op op_add_str (pv 2) (pe_ix ix_str (pv 1) (pe_op op_mod (pe_op op_fdiv (pv 0) pe_int) pe_int) (fun _ _ => rfl))) (pe_ix ix_str pe_str (pe_op op_mod (pe_op op_fdiv (pv 0) pe_int) pe_int) (fun _ _ => rfl)))))
        (pss_one (ps_if (pt_cmpR op_eq (pe_op op_mod (pe_op op_fdiv (pv 0) pe_int) pe_int) pe_int (nomark _)) (pss_one (ps_set (i := 2) scWord.nd rfl (Or.inl rfl) (pe_op op_add_str (pe_op op_mulS (pv 2) pe_int) (pe_ix ix_str pe_str (pe_op op_mod (pe_op op_fdiv (pv 0) pe_int) pe_int) (fun _ _ => rfl))))) pss_nil)))
      (pss_one (ps_ret (pv 2))))), ?_⟩
    have hlS : lettersS.length ≤ 100000 := by decide +kernel
    have hdS : digitsS.length ≤ 100000 := by decide +kernel
    obtain ⟨c, mc, ac⟩ := at_of (xs := lettersS.cps.toList) (i := d % 26) (Int.emod_nonneg _ (by decide)) (Int.emod_lt_of_pos _ (by decide))
    obtain ⟨c2, mc2, ac2⟩ := at_of (xs := lettersS.cps.toList) (i := d / 78 % 13) (Int.emod_nonneg _ (by decide)) (by have := Int.emod_lt_of_pos (d / 78) (b := 13) (by decide); show _ < ((26 : Nat) : Int); omega)
    obtain ⟨e, me, ae⟩ := at_of (xs := digitsS.cps.toList) (i := d / 78 % 10) (Int.emod_nonneg _ (by decide)) (Int.emod_lt_of_pos _ (by decide))
    refine q_asg (v := .str lettersS) ev_c (fun H1 e1 => ?_)
    refine q_asg (v := .str ⟨#[c]⟩) (ev_op (y := .int (d % 26)) (ev_var rfl) (ev_op (x := .int d) (ev_cb (ea_cons (ev_var rfl) ea_nil) (rc_int (K := K))) ev_c (rv_I (by decide))) (rv_ixS hlS ac)) (fun H2 e2 => ?_)
    have x2 := e1.trans e2
    refine q_cut (M := fun σ' H' => ∃ z : Str, σ' = [some (.int d), some (.str lettersS), some (.str z)] ∧ Ex H H' ∧ WordOk z ∧ (d / 26 % 3 = 0 → ∃ c ∈ lettersS.cps.toList, z = ⟨#[c]⟩)) ?_ (fun σ' H' ⟨z, hσ, he, hz, hs⟩ => ?_)
    · refine s_if (b := decide (V.int (d / 26 % 3) = V.int 1)) (et_test (ev_op (x := .int (d / 26 % 3)) (ev_op (x := .int (d / 26)) (ev_op (x := .int d) (y := .int 26) (ev_var rfl) ev_c (rv_I ⟨by decide, by decide⟩)) ev_c (rv_I (by decide))) ev_c (rv_eq rfl))) (fun hb H3 e3 => ?_) (fun hb H3 e3 => ?_)
      · have h1 : d / 26 % 3 = 1 := V.int.inj (of_decide_eq_true hb)
        refine s_asg (v := .str ((⟨#[c]⟩ : Str) ++ (⟨#[c2]⟩ : Str) ++ (⟨#[e]⟩ : Str))) (ev_op (x := .str ((⟨#[c]⟩ : Str) ++ (⟨#[c2]⟩ : Str))) (ev_op (y := .str ⟨#[c2]⟩) (ev_var rfl) (ev_op (y := .int (d / 78 % 13)) (ev_var rfl) (ev_op (x := .int (d / 78)) (ev_op (x := .int d) (y := .int 78) (ev_var rfl) ev_c (rv_I ⟨by decide, by decide⟩)) ev_c (rv_I (by decide))) (rv_ixS hlS ac2)) (rv_cat (by show 1 + 1 ≤ 100000; decide)))
          (ev_op (x := .str digitsS) (y := .int (d / 78 % 10)) ev_c (ev_op (x := .int (d / 78)) (ev_op (x := .int d) (y := .int 78) (ev_var rfl) ev_c (rv_I ⟨by decide, by decide⟩)) ev_c (rv_I (by decide))) (rv_ixS hdS ae)) (rv_cat (by show 2 + 1 ≤ 100000; decide))) (fun H4 e4 => ⟨_, rfl, (x2.trans e3).trans e4, wordB_ok (w_3 c mc c2 mc2 e me), fun z => absurd (h1.symm.trans z) (by decide)⟩)
      · refine s_when (b := decide (V.int (d / 26 % 3) = V.int 2)) (et_test (ev_op (x := .int (d / 26 % 3)) (ev_op (x := .int (d / 26)) (ev_op (x := .int d) (y := .int 26) (ev_var rfl) ev_c (rv_I ⟨by decide, by decide⟩)) ev_c (rv_I (by decide))) ev_c (rv_eq rfl))) (fun hb2 H4 e4 => ?_) (fun hb2 H4 e4 => ?_)
        · have h2 : d / 26 % 3 = 2 := V.int.inj (of_decide_eq_true hb2)
          have hm : MulOk (⟨#[c]⟩ : Str) 7 := ⟨by decide, fun _ _ => by show ¬ ((1 : Nat) : Int) > (2 ^ 63 - 1) / 7; decide, fun _ _ => by show decide (1 * 7 > sizeLine) = false; rw [sizeLine_eq]; decide⟩
          have hml : (Txt.mul (⟨#[c]⟩ : Str) 7).length = 7 := rfl
          refine s_asg (v := .str (Txt.mul (⟨#[c]⟩ : Str) 7 ++ (⟨#[e]⟩ : Str))) (ev_op (x := .str (Txt.mul (⟨#[c]⟩ : Str) 7)) (ev_op (x := .str ⟨#[c]⟩) (y := .int 7) (ev_var rfl) ev_c (fun H5 _ Q' q' => ⟨_, 7, rfl, rfl, hm, q' H5 (Ex.refl H5)⟩))
            (ev_op (x := .str digitsS) (y := .int (d / 78 % 10)) ev_c (ev_op (x := .int (d / 78)) (ev_op (x := .int d) (y := .int 78) (ev_var rfl) ev_c (rv_I ⟨by decide, by decide⟩)) ev_c (rv_I (by decide))) (rv_ixS hdS ae)) (rv_cat (by rw [hml]; show 7 + 1 ≤ 100000; decide))) (fun H5 e5 => ⟨_, rfl, ((x2.trans e3).trans e4).trans e5, wordB_ok (w_8 c mc e me), fun z => absurd (h2.symm.trans z) (by decide)⟩)
        · exact ⟨_, rfl, (x2.trans e3).trans e4, wordB_ok (w_1 c mc), fun _ => ⟨c, mc, rfl⟩⟩
    · subst hσ
      exact s_ret (ev_var rfl) (fun H3 e3 => q z hz hs H3 (he.trans e3))
theorem scLOperand : FnScope ["_law_draw", "_law_way"] ["_law_draw"] (defScope (topS 42)) := ⟨rfl, rfl, rfl, by decide +kernel, rfl, by decide +kernel, by decide +kernel⟩
theorem ok_loperand {f : Addr} {fd : FuncData} (F : Fun K "_law_operand" "_law_operand" (topS 42) f fd) (L : LawT K mg) (GW : CalX P w K mg base CX0 1 "_law_word" spWordX) : FnOk P w K mg base CX0 2 f fd ["_law_draw"] spOperand := by
  refine F.ok scLOperand (fun vs H Q E h => ?_) (fun cdv A outer s H vs Q E hr h => ?_)
  · obtain ⟨d, rfl, _⟩ := h
    rfl
  · obtain ⟨d, rfl, d0, d1, q⟩ := h
    refine ⟨_, pss_cons (ps_set (i := 1) scLOperand.nd rfl (Or.inl rfl) (pe_op op_fdiv (pv 0) pe_int))
      (pss_cons (ps_if (pt_cmpR op_lt (pe_op op_mod (pe_callTy call_int1 (by rfl) L.int (by decide +kernel) (pa_cons (pv 0) pa_nil)) pe_int) pe_int (nomark _)) (pss_one (ps_ret (pe_op op_sub (pe_op op_mod (pe_callTy call_int1 (by rfl) L.int (by decide +kernel) (pa_cons (pv 1) pa_nil)) pe_int) pe_int))) pss_nil)
      (pss_cons (ps_if (pt_cmpR op_eq (pe_op op_mod (pe_callTy call_int1 (by rfl) L.int (by decide +kernel) (pa_cons (pv 0) pa_nil)) pe_int) pe_int (nomark _)) (pss_one (ps_ret (pe_ix ix_list (pe_lst (pa_cons (pe_op op_sub (pe_op op_pow pe_int pe_int) pe_int) (pa_cons (pe_op op_sub pe_int (pe_op op_pow pe_int pe_int)) (pa_cons (pe_op op_pow pe_int pe_int) (pa_cons pe_int (pa_cons (pe_op op_sub pe_int (pv 1)) pa_nil))))))
          (pe_op op_mod (pe_callTy call_int1 (by rfl) L.int (by decide +kernel) (pa_cons (pv 1) pa_nil)) pe_int) (fun _ _ => rfl)))) pss_nil)
      (pss_one (ps_ret (pe_cx (E := fun _ => E0) GW hr (by omega) (by rfl) at0 (pa_cons (pe_op op_add (pe_op op_mul (pv 1) pe_int) (pe_op op_mod (pe_callTy call_int1 (by rfl) L.int (by decide +kernel) (pa_cons (pv 0) pa_nil)) pe_int)) pa_nil)))))), ?_⟩
    refine q_asg (v := .int (d / 5)) (ev_op (x := .int d) (y := .int 5) (ev_var rfl) ev_c (rv_I ⟨by decide, by decide⟩)) (fun H1 e1 => ?_)
    have hw0 : 0 ≤ d / 5 := by omega
    have hw1 : d / 5 < 1000 := by omega
    generalize hw : d / 5 = wy at hw0 hw1
    refine q_when (b := decide (d % 5 < 2)) (et_test (ev_op (x := .int (d % 5)) (ev_op (x := .int d) (ev_cb (ea_cons (ev_var rfl) ea_nil) (rc_int (K := K))) ev_c (rv_I (by decide))) ev_c rv_I0)) (fun hb H2 e2 => ?_) (fun hb H2 e2 => ?_)
    · have m0 := Int.emod_nonneg wy (b := 19) (by decide)
      have m1 := Int.emod_lt_of_pos wy (b := 19) (by decide)
      exact s_ret (v := .int (wy % 19 - 9)) (ev_op (x := .int (wy % 19)) (ev_op (x := .int wy) (ev_cb (ea_cons (ev_var rfl) ea_nil) (rc_int (K := K))) ev_c (rv_I (by decide))) ev_c rv_I0) (fun H3 e3 => q (.int (wy % 19 - 9)) ⟨by omega, by omega⟩ H3 ((e1.trans e2).trans e3))
    have x2 := e1.trans e2
    refine q_when (b := decide (V.int (d % 5) = V.int 2)) (et_test (ev_op (x := .int (d % 5)) (ev_op (x := .int d) (ev_cb (ea_cons (ev_var rfl) ea_nil) (rc_int (K := K))) ev_c (rv_I (by decide))) ev_c (rv_eq rfl))) (fun hb2 H3 e3 => ?_) (fun hb2 H3 e3 => ?_)
    · obtain ⟨x, hx, hat⟩ := at_of (xs := [V.int ((10 : Int) ^ (30 : Int).toNat - 1), .int (1 - (10 : Int) ^ (30 : Int).toNat), .int ((10 : Int) ^ (29 : Int).toNat), .int 0, .int (100 - wy)]) (i := wy % 5) (Int.emod_nonneg _ (by decide)) (Int.emod_lt_of_pos _ (by decide))
      obtain ⟨o, rfl, ho⟩ := bigL hw0 hw1 hx
      exact s_ret (v := o.v) (ev_opL1 (xs := [V.int ((10 : Int) ^ (30 : Int).toNat - 1), .int (1 - (10 : Int) ^ (30 : Int).toNat), .int ((10 : Int) ^ (29 : Int).toNat), .int 0, .int (100 - wy)]) (y := .int (wy % 5))
        (el_lst (ea_cons (ev_op (ev_op ev_c ev_c (rv_I ⟨by decide, by decide, by decide⟩)) ev_c rv_I0) (ea_cons (ev_op ev_c (ev_op ev_c ev_c (rv_I ⟨by decide, by decide, by decide⟩)) rv_I0) (ea_cons (ev_op ev_c ev_c (rv_I ⟨by decide, by decide, by decide⟩)) (ea_cons ev_c (ea_cons (ev_op ev_c (ev_var rfl) rv_I0) ea_nil))))) (by show 5 ≤ 100000; decide))
        (fun H4 e4 => ev_op (x := .int wy) (ev_cb (ea_cons (ev_var rfl) ea_nil) (rc_int (K := K))) ev_c (rv_I (by decide))) (fun p H4 hp e4 => rv_ixL (sq_of hp) hat)) (fun H4 e4 => q o ho H4 ((x2.trans e3).trans e4))
    · have cm : CMul wy 5 := .inr ⟨by decide, by decide⟩
      exact r_call (vs := [.int (wy * 5 + d % 5)]) (ea_cons (ev_op (ev_op (x := .int wy) (y := .int 5) (ev_var rfl) ev_c (rv_I cm)) (ev_op (x := .int d) (ev_cb (ea_cons (ev_var rfl) ea_nil) (rc_int (K := K))) ev_c (rv_I (by decide))) rv_I0) ea_nil) (fun H4 e4 => ⟨_, rfl, fun z hz _ H5 e5 => q (.nm z) hz H5 (((x2.trans e3).trans e4).trans e5)⟩)
end
end Fs

set_option Elab.async false
set_option linter.all false
set_option maxRecDepth 100000
set_option maxHeartbeats 8000000
namespace Fs
open PySem L2 Evl FsE FsC FsR FsT FsK
/-- an offer that is allowed, but for its rest -/
structure OfOk (ch : Str) (s m : Int) (op : Opd) (ns : List Str) : Prop where
  ch : WordOk ch
  m1 : 1 ≤ m
  m4 : m ≤ 4
  s0 : 0 ≤ s
  s1 : s < m
  op : OpdOk op
  nl : (ns.length : Int) = m - 1
  nd : namesS ns = true
  nz : ∀ y ∈ ns, y.length ≤ 8 ∧ PyData.strOk y = true
def nmX (c d : Nat) : Str := (⟨#[c]⟩ : Str) ++ (⟨#[d]⟩ : Str)
def rotN (c : Nat) (t : Nat) : List Str := [nmX c 48, nmX c 49, nmX c 50].drop t ++ [nmX c 48, nmX c 49, nmX c 50].take t
theorem rot_ok : ∀ c ∈ lettersS.cps.toList, ∀ t ∈ [0, 1, 2], ∀ j ∈ [0, 1, 2, 3], namesS ((rotN c t).take j) = true := by decide +kernel
theorem rot_len {c t j : Nat} (ht : t ≤ 2) (hj : j ≤ 3) : ((rotN c t).take j).length = j := by
  unfold rotN
  rw [List.length_take, List.length_append, List.length_drop, List.length_take]
  show min j ((3 - t) + min t 3) = j
  omega
theorem nm_ok : ∀ c ∈ lettersS.cps.toList, ∀ d ∈ [48, 49, 50], (nmX c d).length ≤ 8 ∧ PyData.strOk (nmX c d) = true := by decide +kernel
theorem rot_mem {c t j : Nat} {y : Str} (h : y ∈ (rotN c t).take j) : ∃ d ∈ [48, 49, 50], y = nmX c d := by
  have h' := List.mem_of_mem_take h
  unfold rotN at h'
  have h2 : y ∈ [nmX c 48, nmX c 49, nmX c 50] := by
    rcases List.mem_append.mp h' with h' | h'
    · exact List.mem_of_mem_drop h'
    · exact List.mem_of_mem_take h'
  rcases List.mem_cons.mp h2 with rfl | h2
  · exact ⟨48, by decide, rfl⟩
  rcases List.mem_cons.mp h2 with rfl | h2
  · exact ⟨49, by decide, rfl⟩
  rcases List.mem_cons.mp h2 with rfl | h2
  · exact ⟨50, by decide, rfl⟩
  · cases h2
theorem rot_cut {c t : Nat} (ht : t ≤ 2) : cutV [.str (nmX c 48), .str (nmX c 49), .str (nmX c 50)] (some (t : Int)) none ++ cutV [.str (nmX c 48), .str (nmX c 49), .str (nmX c 50)] none (some (t : Int)) = (rotN c t).map V.str := by
  have : t = 0 ∨ t = 1 ∨ t = 2 := by omega
  rcases this with rfl | rfl | rfl <;> rfl
theorem take_cut {c t j : Nat} (ht : t ≤ 2) (hj : j ≤ 3) : cutV ((rotN c t).map V.str) none (some (j : Int)) = ((rotN c t).take j).map V.str := by
  have h1 : t = 0 ∨ t = 1 ∨ t = 2 := by omega
  have h2 : j = 0 ∨ j = 1 ∨ j = 2 ∨ j = 3 := by omega
  rcases h1 with rfl | rfl | rfl <;> rcases h2 with rfl | rfl | rfl | rfl <;> rfl
def spLOffer : Sp := fun vs H Q _ => ∃ (rl : Addr) (row : List Int) (k : Nat) (b : Addr), vs = [.ref rl, .int (k : Int), .ref b] ∧ H rl = some (.lst (row.map V.int)) ∧ RowOk row ∧ k + 3 < row.length ∧ k ≤ 1000 ∧
  ∀ ch s m op ns o u H', H o = none → H u = none → Ex H H' → H' o = some (.tup [.str ch, .int s, .int m, Opd.v op, .ref u, .ref b]) → H' u = some (.lst (ns.map V.str)) → OfOk ch s m op ns → Q (.ref o) H'
theorem el_is {σ : L2.St} {H : Hp} {te : TE} {xs ys : List V} (h : EvL te σ H xs) (e : xs = ys) : EvL te σ H ys := e ▸ h
section
variable {σ : L2.St} {H : Hp} {ta tb : TE} {tas : TA} {E : L2.St → XK}
theorem el_catLL {xs ys : List V} (ha : EvL ta σ H xs) (hb : EvL tb σ H ys) (hz : xs.length + ys.length ≤ sizeLine) : EvL (tOp rCat ta tb) σ H (xs ++ ys) := fun H1 e Q q =>
  ha H1 e _ fun l H2 hl e2 h2 => hb H2 (e.trans e2) _ fun p H3 hp e3 h3 => ⟨l, p, xs, ys, rfl, rfl, e3 _ _ h2, h3, hz, fun r hr => q r _ (fresh_back (e2.trans e3) hr) ((e2.trans e3).trans (Ex.new hr)) upd_same⟩
theorem es_word {d : Int} (h : EvA tas σ H [.int d]) : EvS (tCallS spWordX E tas) σ H (fun v _ => ∃ z, v = .str z ∧ WordOk z ∧ (d / 26 % 3 = 0 → ∃ c ∈ lettersS.cps.toList, z = ⟨#[c]⟩)) := fun H1 e1 Q q =>
  h H1 e1 _ fun H2 e2 => ⟨d, rfl, fun z hz hs H3 e3 => q (.str z) H3 (e2.trans e3) ⟨z, rfl, hz, hs⟩⟩
theorem es_opd {d : Int} (h : EvA tas σ H [.int d]) (d0 : 0 ≤ d) (d1 : d < 1000) : EvS (tCallS spOperand E tas) σ H (fun v _ => ∃ o : Opd, v = o.v ∧ OpdOk o) := fun H1 e1 Q q =>
  h H1 e1 _ fun H2 e2 => ⟨d, rfl, d0, d1, fun o ho H3 e3 => q o.v H3 (e2.trans e3) ⟨o, rfl, ho⟩⟩
end
section
variable {P : Program} {w : World} {K : PySem.W.Frag} {mg : Str → Option Value} {base : Heap} {C CB : Addr}
abbrev nsLOff : List Str := ["_law_row_here", "_law_at", "_law_rest", "_law_seats", "_law_seat", "_law_letter", "_law_names", "_law_turn"]
theorem scLOffer : FnScope nsLOff ["_law_row_here", "_law_at", "_law_rest"] (defScope (topS 43)) := ⟨rfl, rfl, rfl, by decide +kernel, rfl, by decide +kernel, by decide +kernel⟩
theorem ok_loffer {f : Addr} {fd : FuncData} (F : Fun K "_law_offer" "_law_offer" (topS 43) f fd) (L : LawT K mg) (GW : CalX P w K mg base CX0 1 "_law_word" spWordX) (GO : CalX P w K mg base CX0 2 "_law_operand" spOperand) : FnOk P w K mg base CX0 3 f fd ["_law_row_here", "_law_at", "_law_rest"] spLOffer := by
  refine F.ok scLOffer (fun vs H Q E h => ?_) (fun cdv A outer s H vs Q E hr h => ?_)
  · obtain ⟨rl, row, k, b, rfl, _⟩ := h
    rfl
  · obtain ⟨rl, row, k, b, rfl, hrl, hrow, hlen, hk, q⟩ := h
    refine ⟨_, pss_cons (ps_set (i := 3) scLOffer.nd rfl (Or.inl rfl) (pe_op op_add pe_int (pe_op op_mod (pe_callTy call_int1 (by rfl) L.int (by decide +kernel) (pa_cons (pe_ix ix_list (pv 0) (pe_op op_add (pv 1) pe_int) (fun _ _ => rfl)) pa_nil)) pe_int)))
      (pss_cons (ps_set (i := 4) scLOffer.nd rfl (Or.inl rfl) (pe_op op_mod (pe_op op_fdiv (pe_ix ix_list (pv 0) (pe_op op_add (pv 1) pe_int) (fun _ _ => rfl)) pe_int) (pv 3)))
      (pss_cons (ps_set (i := 5) scLOffer.nd rfl (Or.inl rfl) (pe_cx (E := fun _ => E0) GW hr (by omega) (by rfl) at0 (pa_cons (pe_op op_mod (pe_callTy call_int1 (by rfl) L.int (by decide +kernel) (pa_cons (pe_ix ix_list (pv 0) (pe_op op_add (pv 1) pe_int) (fun _ _ => rfl)) pa_nil)) pe_int) pa_nil)))
      (pss_cons (ps_set (i := 6) scLOffer.nd rfl (Or.inl rfl) (pe_lst (pa_cons (pe_op op_add_str (pv 5) pe_str) (pa_cons (pe_op op_add_str (pv 5) pe_str) (pa_cons (pe_op op_add_str (pv 5) pe_str) pa_nil)))))
      (pss_cons (ps_set (i := 7) scLOffer.nd rfl (Or.inl rfl) (pe_op op_mod (pe_op op_fdiv (pe_ix ix_list (pv 0) (pe_op op_add (pv 1) pe_int) (fun _ _ => rfl)) pe_int) pe_int))
      (pss_cons (ps_set (i := 6) scLOffer.nd rfl (Or.inl rfl) (pe_op op_cat (pe_slice sl_list (pv 6) (po_some (pv 7)) po_none) (pe_slice sl_list (pv 6) po_none (po_some (pv 7)))))
      (pss_one (ps_ret (pe_tup (pa_cons (pe_cx (E := fun _ => E0) GW hr (by omega) (by rfl) at0 (pa_cons (pe_ix ix_list (pv 0) (pv 1) (fun _ _ => rfl)) pa_nil)) (pa_cons (pv 4) (pa_cons (pv 3) (pa_cons (pe_cx (E := fun _ => E0) GO hr (by omega) (by rfl) at0 (pa_cons (pe_ix ix_list (pv 0) (pe_op op_add (pv 1) pe_int) (fun _ _ => rfl)) pa_nil))
        (pa_cons (pe_slice sl_list (pv 6) po_none (po_some (pe_op op_sub (pv 3) pe_int))) (pa_cons (pv 2) pa_nil)))))))))))))), ?_⟩
    obtain ⟨y0, g0, b00, c0⟩ := row_getN rfl hrow (i := k) (by omega)
    obtain ⟨y1, g1, b1, c1⟩ := row_getN rfl hrow (i := k + 1) (by omega)
    obtain ⟨y2, g2, b2, c2⟩ := row_getN rfl hrow (i := k + 2) (by omega)
    obtain ⟨y3, g3, b3, c3⟩ := row_getN rfl hrow (i := k + 3) (by omega)
    rw [show ((k + 1 : Nat) : Int) = (k : Int) + 1 by omega] at g1
    rw [show ((k + 2 : Nat) : Int) = (k : Int) + 2 by omega] at g2
    rw [show ((k + 3 : Nat) : Int) = (k : Int) + 3 by omega] at g3
    have ix : ∀ {j y : Int} {H9 : Hp} {σ9 : L2.St}, Ex H H9 → σ9[0]? = some (some (.ref rl)) → σ9[1]? = some (some (.int (k : Int))) → atI (row.map V.int) ((k : Int) + j) = some (.int y) → Ev (tOp (rIxL K) (tVar 0) (tOp (rI0 fun i j => .int (i + j)) (tVar 1) (tC (.int j)))) σ9 H9 (.int y) :=
      fun e9 s0 s1 g => ev_op (ev_var s0) (ev_op (ev_var s1) ev_c rv_I0) (rv_ixL (sq_of (e9 _ _ hrl)) g)
    obtain ⟨j, hj, hj3⟩ : ∃ j : Nat, y1 % 4 = (j : Int) ∧ j ≤ 3 := ⟨(y1 % 4).toNat, by omega, by omega⟩
    obtain ⟨t, ht, ht2⟩ : ∃ t : Nat, y3 / 26 % 3 = (t : Int) ∧ t ≤ 2 := ⟨(y3 / 26 % 3).toNat, by omega, by omega⟩
    refine q_asg (v := .int (1 + (j : Int))) (ev_is (ev_op ev_c (ev_op (x := .int y1) (ev_cb (ea_cons (ix (Ex.refl H) rfl rfl g1) ea_nil) (rc_int (K := K))) ev_c (rv_I (by decide))) rv_I0) (by rw [hj])) (fun H1 e1 => ?_)
    have s0 := Int.emod_nonneg (y1 / 4) (b := 1 + (j : Int)) (by omega)
    have s1 := Int.emod_lt_of_pos (y1 / 4) (b := 1 + (j : Int)) (by omega)
    refine q_asg (v := .int (y1 / 4 % (1 + (j : Int)))) (ev_op (x := .int (y1 / 4)) (ev_op (x := .int y1) (y := .int 4) (ix e1 rfl rfl g1) ev_c (rv_I ⟨by decide, by decide⟩)) (ev_var rfl) (rv_I (show (0 : Int) < 1 + (j : Int) by omega))) (fun H2 e2 => ?_)
    have x2 := e1.trans e2
    refine q_asgS (es_word (d := y3 % 26) (ea_cons (ev_op (x := .int y3) (ev_cb (ea_cons (ix x2 rfl rfl g3) ea_nil) (rc_int (K := K))) ev_c (rv_I (by decide))) ea_nil)) (fun v H3 e3 ⟨z, hv, hz, hs⟩ => ?_)
    subst hv
    obtain ⟨c, mc, rfl⟩ := hs (by omega)
    have x3 := x2.trans e3
    refine q_asgL (xs := [.str (nmX c 48), .str (nmX c 49), .str (nmX c 50)]) (el_lst (ea_cons (ev_op (x := .str ⟨#[c]⟩) (y := .str ("0" : Str)) (ev_var rfl) ev_c (rv_cat (by show 1 + 1 ≤ 100000; decide))) (ea_cons (ev_op (x := .str ⟨#[c]⟩) (y := .str ("1" : Str)) (ev_var rfl) ev_c (rv_cat (by show 1 + 1 ≤ 100000; decide))) (ea_cons (ev_op (x := .str ⟨#[c]⟩) (y := .str ("2" : Str)) (ev_var rfl) ev_c (rv_cat (by show 1 + 1 ≤ 100000; decide))) ea_nil))) (by show 3 ≤ 100000; decide)) (fun u0 H4 hu0 e4 h4 => ?_)
    have x4 := x3.trans e4
    refine q_asg (v := .int (t : Int)) (ev_is (ev_op (x := .int (y3 / 26)) (ev_op (x := .int y3) (y := .int 26) (ix x4 rfl rfl g3) ev_c (rv_I ⟨by decide, by decide⟩)) ev_c (rv_I (by decide))) (by rw [ht])) (fun H5 e5 => ?_)
    have x5 := x4.trans e5
    refine q_asgL (xs := (rotN c t).map V.str) (el_is (el_catLL (el_sl (ev_var rfl) (eo_some (ev_var rfl)) eo_none (sq_of (e5 _ _ h4))) (el_sl (ev_var rfl) eo_none (eo_some (ev_var rfl)) (sq_of (e5 _ _ h4))) (by
      have l1 := cutV_length [.str (nmX c 48), .str (nmX c 49), .str (nmX c 50)] (some (t : Int)) none
      have l2 := cutV_length [.str (nmX c 48), .str (nmX c 49), .str (nmX c 50)] none (some (t : Int))
      rw [sizeLine_eq]
      have l3 : [V.str (nmX c 48), .str (nmX c 49), .str (nmX c 50)].length = 3 := rfl
      omega)) (rot_cut ht2)) (fun u H6 hu e6 h6 => ?_)
    have x6 := x5.trans e6
    refine es_word (E := fun _ => E0) (σ := [some (.ref rl), some (.int (k : Int)), some (.ref b), some (.int (1 + (j : Int))), some (.int (y1 / 4 % (1 + (j : Int)))), some (.str ⟨#[c]⟩), some (.ref u), some (.int (t : Int))]) (d := y0) (ea_cons (ev_op (ev_var rfl) (ev_var rfl) (rv_ixL (sq_of (x6 _ _ hrl)) g0)) ea_nil) H6 (Ex.refl H6) _ (fun v7 H7 e7 ⟨ch, hv7, hch, _⟩ => ?_)
    subst hv7
    refine ⟨_, rfl, _, rfl, ?_⟩
    refine es_opd (E := fun _ => E0) (σ := [some (.ref rl), some (.int (k : Int)), some (.ref b), some (.int (1 + (j : Int))), some (.int (y1 / 4 % (1 + (j : Int)))), some (.str ⟨#[c]⟩), some (.ref u), some (.int (t : Int))]) (H := H7) (d := y2) (ea_cons (ix (x6.trans e7) rfl rfl g2) ea_nil) b2 c2 H7 (Ex.refl H7) _ (fun v8 H8 e8 ⟨op, hv8, hop⟩ => ?_)
    subst hv8
    have x8 := (x6.trans e7).trans e8
    have h8 := (e7.trans e8) _ _ h6
    refine el_is (el_sl (K := K) (σ := [some (.ref rl), some (.int (k : Int)), some (.ref b), some (.int (1 + (j : Int))), some (.int (y1 / 4 % (1 + (j : Int)))), some (.str ⟨#[c]⟩), some (.ref u), some (.int (t : Int))]) (H := H8) (lo := none) (hi := some (j : Int)) (ev_var (i := 6) rfl) eo_none (eo_some (ev_is (ev_op (r := rI0 fun i j => .int (i - j)) (ev_var (i := 3) rfl) (ev_c (v := .int 1)) rv_I0) (by show V.int (1 + (j : Int) - 1) = _; rw [show 1 + (j : Int) - 1 = (j : Int) by omega]))) (sq_of h8)) (take_cut ht2 hj3) H8 (Ex.refl H8) _ (fun u9 H9 hu9 e9 h9 => ?_)
    refine ⟨_, rfl, by show 6 ≤ sizeLine; decide, fun o ho => ?_⟩
    have x9 := x8.trans e9
    have mt : t ∈ [0, 1, 2] := by
      have : t = 0 ∨ t = 1 ∨ t = 2 := by omega
      rcases this with rfl | rfl | rfl <;> decide
    have mj : j ∈ [0, 1, 2, 3] := by
      have : j = 0 ∨ j = 1 ∨ j = 2 ∨ j = 3 := by omega
      rcases this with rfl | rfl | rfl | rfl <;> decide
    refine q ch (y1 / 4 % (1 + (j : Int))) (1 + (j : Int)) op ((rotN c t).take j) o u9 _ (fresh_back x9 ho) (fresh_back x8 hu9) (x9.trans (Ex.new ho)) upd_same ((Ex.new ho) _ _ h9) ⟨hch, by omega, by omega, s0, s1, hop, by rw [rot_len ht2 hj3]; omega, rot_ok c mc t mt j mj, fun y hy => ?_⟩
    obtain ⟨dd, hdd, rfl⟩ := rot_mem hy
    exact nm_ok c mc dd hdd
end
end Fs

set_option Elab.async false
set_option linter.all false
set_option maxRecDepth 100000
set_option maxHeartbeats 8000000
namespace Fs
open PySem L2 Evl FsE FsC FsR FsT FsK
mutual
/-- a process as the law writes it down: tuples and lists -/
def TrAt (H : Hp) (a : Addr) : Pr → Prop
  | .choice os => ∃ l xs, H a = some (.tup [.str "choice", .ref l]) ∧ H l = some (.lst xs) ∧ OfsTr H xs os
  | .new n k r => ∃ b, H a = some (.tup [.str "new", .str n, .int k, .ref b]) ∧ TrAt H b r
  | .cond l r y n => ∃ b c, H a = some (.tup [.str "if", l.v, r.v, .ref b, .ref c]) ∧ TrAt H b y ∧ TrAt H c n
  | .call n ops => ∃ u, H a = some (.tup [.str "call", .str n, .ref u]) ∧ H u = some (.lst (ops.map Opd.v))
def OfsTr (H : Hp) (ps : List V) : Ofs → Prop
  | .nil => ps = []
  | .cons c s m op ns r os => ∃ o u b qs, ps = .ref o :: qs ∧ H o = some (.tup [.str c, .int s, .int m, op.v, .ref u, .ref b]) ∧ H u = some (.lst (ns.map V.str)) ∧ TrAt H b r ∧ OfsTr H qs os
end
mutual
theorem TrAt.ex {H H' : Hp} (e : Ex H H') : ∀ {p : Pr} {a : Addr}, TrAt H a p → TrAt H' a p
  | .choice os, a, h => by
    unfold TrAt at h ⊢
    obtain ⟨l, xs, h1, h2, h3⟩ := h
    exact ⟨l, xs, e _ _ h1, e _ _ h2, OfsTr.ex e h3⟩
  | .new n k r, a, h => by
    unfold TrAt at h ⊢
    obtain ⟨b, h1, h2⟩ := h
    exact ⟨b, e _ _ h1, TrAt.ex e h2⟩
  | .cond l r y n, a, h => by
    unfold TrAt at h ⊢
    obtain ⟨b, c, h1, h2, h3⟩ := h
    exact ⟨b, c, e _ _ h1, TrAt.ex e h2, TrAt.ex e h3⟩
  | .call n ops, a, h => by
    unfold TrAt at h ⊢
    obtain ⟨u, h1, h2⟩ := h
    exact ⟨u, e _ _ h1, e _ _ h2⟩
theorem OfsTr.ex {H H' : Hp} (e : Ex H H') : ∀ {os : Ofs} {ps : List V}, OfsTr H ps os → OfsTr H' ps os
  | .nil, ps, h => by
    unfold OfsTr at h ⊢
    exact h
  | .cons c s m op ns r os, ps, h => by
    unfold OfsTr at h ⊢
    obtain ⟨o, u, b, qs, h1, h2, h3, h4, h5⟩ := h
    exact ⟨o, u, b, qs, h1, e _ _ h2, e _ _ h3, TrAt.ex e h4, OfsTr.ex e h5⟩
end
mutual
/-- allowed, but for depth and size -/
def AlP : Pr → Prop
  | .choice os => os.len ≤ 6 ∧ AlO os
  | .new n k r => WordOk n ∧ 1 ≤ k ∧ k ≤ 4 ∧ AlP r
  | .cond l r y n => OpdOk l ∧ OpdOk r ∧ AlP y ∧ AlP n
  | .call n ops => WordOk n ∧ ops.length ≤ 4 ∧ ∀ o ∈ ops, OpdOk o
def AlO : Ofs → Prop
  | .nil => True
  | .cons c s m op ns r os => OfOk c s m op ns ∧ AlP r ∧ AlO os
end
def szB : Nat → Int
  | 0 => 0
  | 1 => 1
  | n + 2 => 2 * (szB (n + 1) + 1)
theorem szB_pos : ∀ n, 1 ≤ szB (n + 1)
  | 0 => by show (1 : Int) ≤ 1; decide
  | n + 1 => by
    have := szB_pos n
    show 1 ≤ 2 * (szB (n + 1) + 1)
    omega
/-- the first node of a level; the leaves are level 1 -/
def lf : Nat → Nat
  | 0 => 15
  | 1 => 7
  | 2 => 3
  | 3 => 1
  | _ => 0
/-- what the law may write at level h -/
structure TrOk (h : Nat) (p : Pr) : Prop where
  al : AlP p
  dep : p.depth ≤ (h : Int)
  siz : p.size ≤ szB h
def spTerm (h : Nat) : Sp := fun vs H Q _ => ∃ (rl : Addr) (row : List Int) (n : Nat), vs = [.ref rl, .int (n : Int)] ∧ H rl = some (.lst (row.map V.int)) ∧ RowOk row ∧ row.length = 135 ∧ 1 ≤ h ∧ h ≤ 4 ∧ lf h ≤ n ∧ n ≤ 2 * lf h ∧
  ∀ a p H', H a = none → Ex H H' → TrAt H' a p → TrOk h p → Q (.ref a) H'
theorem ok_stop1 {h : Nat} (h1 : 1 ≤ h) : TrOk h (.choice .nil) := by
  have hs : 1 ≤ szB h := by
    obtain ⟨k, rfl⟩ : ∃ k, h = k + 1 := ⟨h - 1, by omega⟩
    exact szB_pos k
  refine ⟨?_, ?_, ?_⟩
  · unfold AlP AlO
    exact ⟨by decide, trivial⟩
  · rw [Pr.depth, Ofs.depth]
    omega
  · rw [Pr.size, Ofs.sum]
    show max 1 ((0 : Nat) : Int) + 0 ≤ _
    omega
theorem ok_call1 {h : Nat} (h1 : 1 ≤ h) {z : Str} {ops : List Opd} (hz : WordOk z) (hl : ops.length ≤ 4) (ho : ∀ o ∈ ops, OpdOk o) : TrOk h (.call z ops) := by
  have hs : 1 ≤ szB h := by
    obtain ⟨k, rfl⟩ : ∃ k, h = k + 1 := ⟨h - 1, by omega⟩
    exact szB_pos k
  refine ⟨?_, ?_, ?_⟩
  · unfold AlP
    exact ⟨hz, hl, ho⟩
  · rw [Pr.depth]
    omega
  · rw [Pr.size]
    omega
theorem szB_up {h : Nat} (h1 : 1 ≤ h) : szB (h + 1) = 2 * (szB h + 1) := by
  obtain ⟨k, rfl⟩ : ∃ k, h = k + 1 := ⟨h - 1, by omega⟩
  rfl
theorem ok_new1 {h : Nat} (h1 : 1 ≤ h) {z : Str} {k : Int} {r : Pr} (hz : WordOk z) (k1 : 1 ≤ k) (k4 : k ≤ 4) (hr : TrOk h r) : TrOk (h + 1) (.new z k r) := by
  have e := szB_up h1
  have d := hr.dep
  have s := hr.siz
  have dp := Pr.depth_pos r
  have sz : 1 ≤ szB h := by
    obtain ⟨k, rfl⟩ : ∃ k, h = k + 1 := ⟨h - 1, by omega⟩
    exact szB_pos k
  refine ⟨?_, ?_, ?_⟩
  · unfold AlP
    exact ⟨hz, k1, k4, hr.al⟩
  · rw [Pr.depth]
    omega
  · rw [Pr.size, e]
    omega
theorem ok_cond1 {h : Nat} (h1 : 1 ≤ h) {l r : Opd} {y n : Pr} (hl : OpdOk l) (hr : OpdOk r) (hy : TrOk h y) (hn : TrOk h n) : TrOk (h + 1) (.cond l r y n) := by
  have e := szB_up h1
  have d := hy.dep
  have s := hy.siz
  have d2 := hn.dep
  have s2 := hn.siz
  refine ⟨?_, ?_, ?_⟩
  · unfold AlP
    exact ⟨hl, hr, hy.al, hn.al⟩
  · rw [Pr.depth]
    omega
  · rw [Pr.size, e]
    omega
theorem ok_off1 {h : Nat} (h1 : 1 ≤ h) {c : Str} {s m : Int} {op : Opd} {ns : List Str} {r : Pr} (ho : OfOk c s m op ns) (hr : TrOk h r) : TrOk (h + 1) (.choice (.cons c s m op ns r .nil)) := by
  have e := szB_up h1
  have d := hr.dep
  have s := hr.siz
  have sz : 1 ≤ szB h := by
    obtain ⟨k, rfl⟩ : ∃ k, h = k + 1 := ⟨h - 1, by omega⟩
    exact szB_pos k
  refine ⟨?_, ?_, ?_⟩
  · unfold AlP AlO AlO
    exact ⟨by show 1 ≤ 6; decide, ho, hr.al, trivial⟩
  · rw [Pr.depth, Ofs.depth, Ofs.depth]
    omega
  · rw [Pr.size, Ofs.sum, Ofs.sum, e]
    show max 1 ((1 : Nat) : Int) + (r.size + 0) ≤ _
    omega
theorem ok_off2 {h : Nat} (h1 : 1 ≤ h) {c c' : Str} {s m s' m' : Int} {op op' : Opd} {ns ns' : List Str} {r r' : Pr} (ho : OfOk c s m op ns) (ho' : OfOk c' s' m' op' ns') (hr : TrOk h r) (hr' : TrOk h r') : TrOk (h + 1) (.choice (.cons c s m op ns r (.cons c' s' m' op' ns' r' .nil))) := by
  have e := szB_up h1
  have d := hr.dep
  have s := hr.siz
  have d2 := hr'.dep
  have s2 := hr'.siz
  refine ⟨?_, ?_, ?_⟩
  · unfold AlP AlO AlO AlO
    exact ⟨by show 2 ≤ 6; decide, ho, hr.al, ho', hr'.al, trivial⟩
  · rw [Pr.depth, Ofs.depth, Ofs.depth, Ofs.depth]
    omega
  · rw [Pr.size, Ofs.sum, Ofs.sum, Ofs.sum, e]
    show max 1 ((2 : Nat) : Int) + (r.size + (r'.size + 0)) ≤ _
    omega
section
variable {σ : L2.St} {H : Hp} {ta te : TE} {tas tn : TA} {E : L2.St → XK}
/-- operands drawn one by one -/
theorem es_lcO {j : Nat} {vs : List Nat} {n : Int} (h : EvA tn σ H [.int n]) (hn : 0 ≤ n ∧ n ≤ 100) (hw : ∀ x, wipe ((wipe σ vs).set j (some x)) vs = wipe σ vs)
    (he : ∀ (i : Nat) H1, Ex H H1 → (i : Int) < n → EvS te ((wipe σ vs).set j (some (.int (i : Int)))) H1 (fun v _ => ∃ o : Opd, v = o.v ∧ OpdOk o)) :
    EvS (tLc (iRng1 tn) (gName j) tYes te vs) σ H (fun v H' => ∃ (l : Addr) (ops : List Opd), v = .ref l ∧ H' l = some (.lst (ops.map Opd.v)) ∧ (ops.length : Int) = n ∧ ∀ o ∈ ops, OpdOk o) := fun H0 e0 Q q =>
  h H0 e0 _ fun H1 e1 => ⟨n, rfl, by omega, by omega, fun Dl hD => lc_range (lo := 0) (n := n.toNat) (fun m H' => ∃ ops : List Opd, H' Dl = some (.lst (ops.map Opd.v)) ∧ ops.length = m ∧ (∀ o ∈ ops, OpdOk o) ∧ Ex H1 H') ⟨[], upd_same, rfl, (fun _ z => nomatch z), Ex.new hD⟩
    (fun m H' hm ⟨ops, g1, g2, g3, g4⟩ => by
      have z0 : (0 : Int) + (m : Int) = (m : Int) := Int.zero_add _
      rw [z0]
      refine ⟨hw _, he m H' ((e0.trans e1).trans g4) (by omega) H' (Ex.refl H') _ fun v H4 e4 ⟨o, hv, ho⟩ => ?_⟩
      subst hv
      refine ⟨ops.map Opd.v, e4 _ _ g1, sz_lt (by rw [List.length_map]; omega), ops ++ [o], ?_, by rw [List.length_append, g2]; rfl, fun x hx => ?_, Ex.mut (g4.trans e4) hD⟩
      · rw [List.map_append]
        exact upd_same
      · rcases List.mem_append.mp hx with hx | hx
        · exact g3 x hx
        · rw [List.mem_singleton.mp hx]
          exact ho)
    (fun H' ⟨ops, g1, g2, g3, g4⟩ => q (.ref Dl) H' (e1.trans g4) ⟨Dl, ops, rfl, g1, by omega, g3⟩)⟩
theorem es_term {h : Nat} {rl : Addr} {row : List Int} {n : Nat} (ha : EvA tas σ H [.ref rl, .int (n : Int)]) (hl : H rl = some (.lst (row.map V.int))) (hr : RowOk row) (hz : row.length = 135) (h1 : 1 ≤ h) (h4 : h ≤ 4) (l0 : lf h ≤ n) (l1 : n ≤ 2 * lf h) :
    EvS (tCallS (spTerm h) E tas) σ H (fun v H' => ∃ a p, v = .ref a ∧ TrAt H' a p ∧ TrOk h p) := fun H1 e1 Q q =>
  ha H1 e1 _ fun H2 e2 => ⟨rl, row, n, rfl, (e1.trans e2) _ _ hl, hr, hz, h1, h4, l0, l1, fun a p H3 _ e3 ht hp => q (.ref a) H3 (e2.trans e3) ⟨a, p, rfl, ht, hp⟩⟩
end
end Fs

set_option Elab.async false
set_option linter.all false
set_option maxRecDepth 100000
set_option maxHeartbeats 8000000
namespace Fs
open PySem L2 Evl FsE FsC FsR FsT FsK
theorem lf_up {h : Nat} (h1 : 1 ≤ h) (h4 : h + 1 ≤ 4) : lf h = 2 * lf (h + 1) + 1 := by
  have : h = 1 ∨ h = 2 ∨ h = 3 := by omega
  rcases this with rfl | rfl | rfl <;> rfl
theorem lf_top {h : Nat} (h1 : 1 ≤ h) (h4 : h ≤ 4) : lf h ≤ 7 ∧ (7 ≤ lf h → h = 1) ∧ (h = 1 → lf h = 7) := by
  have : h = 1 ∨ h = 2 ∨ h = 3 ∨ h = 4 := by omega
  rcases this with rfl | rfl | rfl | rfl <;> decide
section
variable {σ : L2.St} {H : Hp} {ta te tb : TE} {tas : TA} {tz : TS} {D : Ends} {K : PySem.W.Frag} {E : L2.St → XK}
/-- [offer] -/
theorem q_off1 {i : Nat} {rl b : Addr} {row : List Int} {k : Nat} (ha : EvA tas σ H [.ref rl, .int (k : Int), .ref b]) (hl : H rl = some (.lst (row.map V.int))) (hr : RowOk row) (hk : k + 3 < row.length) (h1000 : k ≤ 1000)
    (kk : ∀ ch s m op ns o u l H1 H2, Ex H H1 → H1 o = some (.tup [.str ch, .int s, .int m, Opd.v op, .ref u, .ref b]) → H1 u = some (.lst (ns.map V.str)) → OfOk ch s m op ns → H1 l = none → H2 = upd H1 l (.lst [.ref o]) → tz D (σ.set i (some (.ref l))) H2) :
    tSeq (tAsg (tLst (tCons (tCallS spLOffer E tas) tNil)) (gName i)) tz D σ H :=
  ha H (Ex.refl H) _ fun H1 e1 => ⟨rl, row, k, b, rfl, e1 _ _ hl, hr, hk, h1000, fun ch s m op ns o u H2 _ _ e2 h2 h3 ok => ⟨by show 1 ≤ sizeLine; decide, fun l hln => kk ch s m op ns o u l H2 _ (e1.trans e2) h2 h3 ok hln rfl⟩⟩
/-- l.append(offer) -/
theorem s_off2 {rl b l : Addr} {row : List Int} {k : Nat} {xs : List V} (hx : H l = some (.lst xs)) (hz : xs.length ≤ 100) (ht : Ev ta σ H (.ref l)) (ha : EvA tas σ H [.ref rl, .int (k : Int), .ref b]) (hl : H rl = some (.lst (row.map V.int))) (hr : RowOk row) (hk : k + 3 < row.length) (h1000 : k ≤ 1000)
    (kk : ∀ ch s m op ns o u H1, Ex H H1 → H1 o = some (.tup [.str ch, .int s, .int m, Opd.v op, .ref u, .ref b]) → H1 u = some (.lst (ns.map V.str)) → OfOk ch s m op ns → o ≠ l → u ≠ l → D.nx σ (upd H1 l (.lst (xs ++ [.ref o])))) :
    tDrop (tBM K "list" rAppend ta (tCons (tCallS spLOffer E tas) tNil)) D σ H := ht H (Ex.refl H) _ fun H1 e1 =>
  ⟨Or.inl ⟨rfl, xs, sq_of (e1 _ _ hx)⟩, ha H1 e1 _ fun H2 e2 => ⟨rl, row, k, b, rfl, (e1.trans e2) _ _ hl, hr, hk, h1000, fun ch s m op ns o u H3 no nu e3 h2 h3 ok => by
    have hl2 := (e1.trans e2) _ _ hx
    have o1 : o ≠ l := fun z => by rw [z, hl2] at no; cases no
    have u1 : u ≠ l := fun z => by rw [z, hl2] at nu; cases nu
    exact ⟨l, xs, .ref o, rfl, rfl, e3 _ _ hl2, sz_lt (by omega), kk ch s m op ns o u H3 ((e1.trans e2).trans e3) h2 h3 ok o1 u1⟩⟩⟩
end
section
variable {P : Program} {w : World} {K : PySem.W.Frag} {mg : Str → Option Value} {base : Heap} {C CB : Addr}
abbrev nsTerm : List Str := ["_law_row_here", "_law_node", "_law_at", "_law_kind", "_law_operands", "_law_first", "_law_other", "_law_offers", "_law_k"]
theorem scTerm : FnScope nsTerm ["_law_row_here", "_law_node"] (defScope (topS 44)) := ⟨rfl, rfl, rfl, by decide +kernel, rfl, by decide +kernel, by decide +kernel⟩
theorem ok_term {f : Addr} {fd : FuncData} (F : Fun K "_law_term" "_law_term" (topS 44) f fd) (L : LawT K mg) (GW : CalX P w K mg base CX0 1 "_law_word" spWordX) (GO : CalX P w K mg base CX0 2 "_law_operand" spOperand) (GF : CalX P w K mg base CX0 3 "_law_offer" spLOffer)
    (hm : mg "_law_term" = some (.ref f)) (kp : PySem.W.keepIn K (.ref f) = true) (bd : Binds K fd ["_law_row_here", "_law_node"] []) : ∀ h : Nat, FnOk P w K mg base CX0 (4 + h) f fd ["_law_row_here", "_law_node"] (spTerm h)
  | 0 => by
    refine F.ok scTerm (fun vs H Q E h => ?_) (fun cdv A outer s H vs Q E hr h => ?_)
    · obtain ⟨rl, row, n, rfl, _⟩ := h
      rfl
    · obtain ⟨rl, row, n, rfl, _, _, _, h1, _⟩ := h
      exact absurd h1 (by decide)
  | h + 1 => by
    have ih := ok_term F L GW GO GF hm kp bd h
    have GT : CalX P w K mg base CX0 (4 + h) "_law_term" (spTerm h) := ⟨f, fd, _, ih, hm, kp, bd⟩
    refine F.ok (k := 4 + h) scTerm (fun vs H Q E h => ?_) (fun cdv A outer s H vs Q E hr hh => ?_)
    · obtain ⟨rl, row, n, rfl, _⟩ := h
      rfl
    · obtain ⟨rl, row, n, rfl, hrl, hrow, hlen, h1, h4, n0, n1, q⟩ := hh
      refine ⟨_, pss_cons (ps_set (i := 2) scTerm.nd rfl (Or.inr rfl) (pe_op op_mul pe_int (pv 1)))
        (pss_cons (ps_set (i := 3) scTerm.nd rfl (Or.inl rfl) (pe_op op_mod (pe_callTy call_int1 (by rfl) L.int (by decide +kernel) (pa_cons (pe_ix ix_list (pv 0) (pv 2) (fun _ _ => rfl)) pa_nil)) pe_int))
        (pss_cut (ps_if (pt_cmpR op_ge (pv 1) pe_int (nomark _)) (pss_one (ps_set (i := 3) scTerm.nd rfl (Or.inl rfl) (pe_op op_mod (pe_callTy call_int1 (by rfl) L.int (by decide +kernel) (pa_cons (pe_ix ix_list (pv 0) (pv 2) (fun _ _ => rfl)) pa_nil)) pe_int))) pss_nil)
        (pss_cons (ps_if (pt_cmpR op_eq (pv 3) pe_int (nomark _)) (pss_one (ps_ret (pe_tup (pa_cons pe_str (pa_cons (pe_lst pa_nil) pa_nil))))) pss_nil)
        (pss_cons (ps_if (pt_cmpR op_eq (pv 3) pe_int (nomark _))
          (pss_cons (ps_setLc (i := 4) (own := [("_law_k", 8)]) (g := gName 8) (tt := tYes) (te := tCallS spOperand (fun _ => E0) (tCons (tOp (rIxL K) (tVar 0) (tOp (rI0 fun i j => .int (i + j)) (tOp (rI0 fun i j => .int (i + j)) (tVar 2) (tC (.int 2))) (tVar 8))) tNil)) rfl scTerm.nd rfl rfl (sw_true rfl rfl rfl (by decide +kernel))
              (pi_range1 rfl L.range (pa_cons (pe_op op_mod (pe_op op_fdiv (pe_ix ix_list (pv 0) (pv 2) (fun _ _ => rfl)) pe_int) pe_int) pa_nil)) (blkOk_by (own := [("_law_k", 8)]) (N := nsTerm) (sc := defScope (topS 44)) (by decide +kernel))
              (fun _ _ _ _ _ => pg_name (i := 8) scTerm.nd rfl (Or.inl rfl)) (fun _ _ _ _ _ => pts_nil)
              (fun _ _ _ _ _ => pe_cx (E := fun _ => E0) GO hr (by omega) (by rfl) at0 (pa_cons (pe_ix ix_list (pv 0) (pe_op op_add (pe_op op_add (pv 2) pe_int) (pv 8)) (fun _ _ => rfl)) pa_nil)))
            (pss_one (ps_ret (pe_tup (pa_cons pe_str (pa_cons (pe_cx (E := fun _ => E0) GW hr (by omega) (by rfl) at0 (pa_cons (pe_ix ix_list (pv 0) (pe_op op_add (pv 2) pe_int) (fun _ _ => rfl)) pa_nil)) (pa_cons (pv 4) pa_nil))))))) pss_nil)
        (pss_cons (ps_set (i := 5) scTerm.nd rfl (Or.inl rfl) (pe_cx (E := fun _ => E0) GT hr (Nat.le_refl _) (by rfl) at0 (pa_cons (pv 0) (pa_cons (pe_op op_add (pe_op op_mul pe_int (pv 1)) pe_int) pa_nil))))
        (pss_cons (ps_if (pt_cmpR op_eq (pv 3) pe_int (nomark _)) (pss_one (ps_ret (pe_tup (pa_cons pe_str (pa_cons (pe_cx (E := fun _ => E0) GW hr (by omega) (by rfl) at0 (pa_cons (pe_ix ix_list (pv 0) (pe_op op_add (pv 2) pe_int) (fun _ _ => rfl)) pa_nil))
            (pa_cons (pe_op op_add pe_int (pe_op op_mod (pe_callTy call_int1 (by rfl) L.int (by decide +kernel) (pa_cons (pe_ix ix_list (pv 0) (pe_op op_add (pv 2) pe_int) (fun _ _ => rfl)) pa_nil)) pe_int)) (pa_cons (pv 5) pa_nil))))))) pss_nil)
        (pss_cons (ps_set (i := 6) scTerm.nd rfl (Or.inl rfl) (pe_cx (E := fun _ => E0) GT hr (Nat.le_refl _) (by rfl) at0 (pa_cons (pv 0) (pa_cons (pe_op op_add (pe_op op_mul pe_int (pv 1)) pe_int) pa_nil))))
        (pss_cons (ps_if (pt_cmpR op_eq (pv 3) pe_int (nomark _)) (pss_one (ps_ret (pe_tup (pa_cons pe_str (pa_cons (pe_cx (E := fun _ => E0) GO hr (by omega) (by rfl) at0 (pa_cons (pe_ix ix_list (pv 0) (pe_op op_add (pv 2) pe_int) (fun _ _ => rfl)) pa_nil))
            (pa_cons (pe_cx (E := fun _ => E0) GO hr (by omega) (by rfl) at0 (pa_cons (pe_ix ix_list (pv 0) (pe_op op_add (pv 2) pe_int) (fun _ _ => rfl)) pa_nil)) (pa_cons (pv 5) (pa_cons (pv 6) pa_nil)))))))) pss_nil)
        (pss_cons (ps_set (i := 7) scTerm.nd rfl (Or.inl rfl) (pe_lst (pa_cons (pe_cx (E := fun _ => E0) GF hr (by omega) (by rfl) at0 (pa_cons (pv 0) (pa_cons (pe_op op_add (pv 2) pe_int) (pa_cons (pv 5) pa_nil)))) pa_nil)))
        (pss_cut (ps_if (pt_cmpR op_eq (pv 3) pe_int (nomark _)) (pss_one (ps_expr (pe_bm PySem.F.plainAttrs_list PySem.F.slot_list_append PySem.F.type_list_append mt_append (pv 7) (pa_cons (pe_cx (E := fun _ => E0) GF hr (by omega) (by rfl) at0 (pa_cons (pv 0) (pa_cons (pe_op op_add (pv 2) pe_int) (pa_cons (pv 6) pa_nil)))) pa_nil)))) pss_nil)
        (pss_one (ps_ret (pe_tup (pa_cons pe_str (pa_cons (pv 7) pa_nil))))))))))))))), ?_⟩
      have t7 := lf_top (h := h + 1) (by omega) h4
      have hn14 : n ≤ 14 := by omega
      have gt : ∀ j : Nat, j ≤ 8 → ∃ v, atI (row.map V.int) (9 * (n : Int) + (j : Int)) = some (.int v) ∧ 0 ≤ v ∧ v < 1000 := fun j hj => by
        obtain ⟨v, g, b, c⟩ := row_getN hlen hrow (i := 9 * n + j) (by omega)
        rw [show ((9 * n + j : Nat) : Int) = 9 * (n : Int) + (j : Int) by omega] at g
        exact ⟨v, g, b, c⟩
      obtain ⟨y0, g0, b0, c0⟩ := gt 0 (by decide)
      obtain ⟨y1, g1, b1, c1⟩ := gt 1 (by decide)
      obtain ⟨y2, g2, b2, c2⟩ := gt 2 (by decide)
      rw [show 9 * (n : Int) + ((0 : Nat) : Int) = 9 * (n : Int) by omega] at g0
      have ix0 : ∀ {H9 : Hp} {σ9 : L2.St}, Ex H H9 → σ9[0]? = some (some (.ref rl)) → σ9[2]? = some (some (.int (9 * (n : Int)))) → Ev (tOp (rIxL K) (tVar 0) (tVar 2)) σ9 H9 (.int y0) := fun e9 s0 s2 => ev_op (ev_var s0) (ev_var s2) (rv_ixL (sq_of (e9 _ _ hrl)) g0)
      have ix1 : ∀ {H9 : Hp} {σ9 : L2.St}, Ex H H9 → σ9[0]? = some (some (.ref rl)) → σ9[2]? = some (some (.int (9 * (n : Int)))) → Ev (tOp (rIxL K) (tVar 0) (tOp (rI0 fun i j => .int (i + j)) (tVar 2) (tC (.int 1)))) σ9 H9 (.int y1) := fun e9 s0 s2 => ev_op (ev_var s0) (ev_op (ev_var s2) ev_c rv_I0) (rv_ixL (sq_of (e9 _ _ hrl)) g1)
      have ix2 : ∀ {H9 : Hp} {σ9 : L2.St}, Ex H H9 → σ9[0]? = some (some (.ref rl)) → σ9[2]? = some (some (.int (9 * (n : Int)))) → Ev (tOp (rIxL K) (tVar 0) (tOp (rI0 fun i j => .int (i + j)) (tVar 2) (tC (.int 2)))) σ9 H9 (.int y2) := fun e9 s0 s2 => ev_op (ev_var s0) (ev_op (ev_var s2) ev_c rv_I0) (rv_ixL (sq_of (e9 _ _ hrl)) g2)
      refine q_asg (v := .int (9 * (n : Int))) (ev_op ev_c (ev_var rfl) (rv_I (.inl ⟨by decide, by decide⟩))) (fun H1 e1 => ?_)
      refine q_asg (v := .int (y0 % 6)) (ev_op (x := .int y0) (ev_cb (ea_cons (ix0 e1 rfl rfl) ea_nil) (rc_int (K := K))) ev_c (rv_I (by decide))) (fun H2 e2 => ?_)
      refine q_cut (M := fun σ' H' => ∃ kd : Int, σ' = [some (.ref rl), some (.int (n : Int)), some (.int (9 * (n : Int))), some (.int kd), none, none, none, none, none] ∧ Ex H H' ∧ 0 ≤ kd ∧ kd < 6 ∧ (7 ≤ n → kd < 2)) ?_ (fun σ3 H3 ⟨kd, hσ, x3, kd0, kd6, kd7⟩ => ?_)
      · refine s_when (b := decide ((n : Int) ≥ 7)) (et_test (ev_op (ev_var rfl) ev_c rv_I0)) (fun hb H3 e3 => ?_) (fun hb H3 e3 => ?_)
        · exact s_asg (v := .int (y0 % 2)) (ev_op (x := .int y0) (ev_cb (ea_cons (ix0 ((e1.trans e2).trans e3) rfl rfl) ea_nil) (rc_int (K := K))) ev_c (rv_I (by decide))) (fun H4 e4 => ⟨y0 % 2, rfl, ((e1.trans e2).trans e3).trans e4, by omega, by omega, fun _ => by omega⟩)
        · have hb' : ¬ (n : Int) ≥ 7 := of_decide_eq_false hb
          exact ⟨y0 % 6, rfl, (e1.trans e2).trans e3, by omega, by omega, fun z => absurd (by omega : (n : Int) ≥ 7) hb'⟩
      subst hσ
      refine q_when (b := decide (V.int kd = V.int 0)) (et_test (ev_op (ev_var rfl) ev_c (rv_eq rfl))) (fun _ H4 e4 => ?_) (fun hb0 H4 e4 => ?_)
      · have x4 := x3.trans e4
        refine ⟨by show 0 ≤ sizeLine; decide, fun l hl => ⟨by show 2 ≤ sizeLine; decide, fun a ha => q a (.choice .nil) _ (fresh_back x4 (fresh_back (Ex.new hl) ha)) (x4.trans ((Ex.new hl).trans (Ex.new ha))) ?_ (ok_stop1 h1)⟩⟩
        unfold TrAt OfsTr
        exact ⟨l, [], upd_same, (Ex.new ha) _ _ upd_same, rfl⟩
      have k0 : ¬ kd = 0 := fun z => by rw [z] at hb0; exact absurd hb0 (by decide)
      have x4 := x3.trans e4
      refine q_when (b := decide (V.int kd = V.int 1)) (et_test (ev_op (ev_var rfl) ev_c (rv_eq rfl))) (fun _ H5 e5 => ?_) (fun hb1 H5 e5 => ?_)
      · have x5 := x4.trans e5
        refine q_asgS (es_lcO (n := y0 / 6 % 5) (ea_cons (ev_op (x := .int (y0 / 6)) (ev_op (x := .int y0) (y := .int 6) (ix0 x5 rfl rfl) ev_c (rv_I ⟨by decide, by decide⟩)) ev_c (rv_I (by decide))) ea_nil) (by omega) (fun _ => rfl) (fun i H6 e6 hi => ?_)) (fun v H6 e6 ⟨u, ops, hv, hu, hol, hoo⟩ => ?_)
        · obtain ⟨v, g, b, c⟩ := gt (2 + i) (by omega)
          rw [show 9 * (n : Int) + ((2 + i : Nat) : Int) = 9 * (n : Int) + 2 + (i : Int) by omega] at g
          exact es_opd (d := v) (ea_cons (ev_op (ev_var rfl) (ev_op (ev_op (ev_var rfl) ev_c rv_I0) (ev_var rfl) rv_I0) (rv_ixL (sq_of ((x5.trans e6) _ _ hrl)) g)) ea_nil) b c
        · subst hv
          have x6 := x5.trans e6
          refine es_word (E := fun _ => E0) (σ := [some (.ref rl), some (.int (n : Int)), some (.int (9 * (n : Int))), some (.int kd), some (.ref u), none, none, none, none]) (d := y1) (ea_cons (ix1 x6 rfl rfl) ea_nil) H6 (Ex.refl H6) _ (fun v H7 e7 ⟨z, hv, hz, _⟩ => ?_)
          subst hv
          refine ⟨_, rfl, by show 3 ≤ sizeLine; decide, fun a ha => q a (.call z ops) _ (fresh_back (x6.trans e7) ha) ((x6.trans e7).trans (Ex.new ha)) ?_ (ok_call1 h1 hz (by omega) hoo)⟩
          unfold TrAt
          exact ⟨u, upd_same, (Ex.new ha) _ _ (e7 _ _ hu)⟩
      have k1 : ¬ kd = 1 := fun z => by rw [z] at hb1; exact absurd hb1 (by decide)
      have x5 := x4.trans e5
      have hn7 : ¬ 7 ≤ n := fun z => by have := kd7 z; omega
      have hh1 : 1 ≤ h := by
        rcases Nat.eq_zero_or_pos h with z | z
        · subst z
          have := t7.2.2 rfl
          omega
        · exact z
      have lu := lf_up hh1 h4
      refine q_asgS (es_term (h := h) (n := 2 * n + 1) (ea_cons (ev_var rfl) (ea_cons (ev_is (ev_op (ev_op ev_c (ev_var rfl) (rv_I (.inl ⟨by decide, by decide⟩))) ev_c rv_I0) (by rw [show ((2 * n + 1 : Nat) : Int) = 2 * (n : Int) + 1 by omega])) ea_nil)) (x5 _ _ hrl) hrow hlen hh1 (by omega) (by omega) (by omega)) (fun v H6 e6 ⟨a1, p1, hv, t1, o1⟩ => ?_)
      subst hv
      have x6 := x5.trans e6
      refine q_when (b := decide (V.int kd = V.int 2)) (et_test (ev_op (ev_var rfl) ev_c (rv_eq rfl))) (fun _ H7 e7 => ?_) (fun hb2 H7 e7 => ?_)
      · have x7 := x6.trans e7
        refine es_word (E := fun _ => E0) (σ := [some (.ref rl), some (.int (n : Int)), some (.int (9 * (n : Int))), some (.int kd), none, some (.ref a1), none, none, none]) (d := y1) (ea_cons (ix1 x7 rfl rfl) ea_nil) H7 (Ex.refl H7) _ (fun v H8 e8 ⟨z, hv, hz, _⟩ => ?_)
        subst hv
        have x8 := x7.trans e8
        refine (ev_op (r := rI0 fun i j => .int (i + j)) (σ := [some (.ref rl), some (.int (n : Int)), some (.int (9 * (n : Int))), some (.int kd), none, some (.ref a1), none, none, none]) (x := .int 1) (y := .int (y2 % 4)) ev_c (ev_op (r := rI (fun _ j => 0 < j) fun i j => .int (i % j)) (x := .int y2) (y := .int 4) (ev_cb (ea_cons (ix2 x8 rfl rfl) ea_nil) (rc_int (K := K))) ev_c (rv_I (by decide))) rv_I0 : Ev _ _ H8 _) H8 (Ex.refl H8) _ (fun H9 e9 => ?_)
        refine ⟨_, rfl, by show 4 ≤ sizeLine; decide, fun a ha => q a (.new z (1 + y2 % 4) p1) _ (fresh_back (x8.trans e9) ha) ((x8.trans e9).trans (Ex.new ha)) ?_ (ok_new1 hh1 hz (by omega) (by omega) o1)⟩
        unfold TrAt
        exact ⟨a1, upd_same, t1.ex (((e7.trans e8).trans e9).trans (Ex.new ha))⟩
      have k2 : ¬ kd = 2 := fun z => by rw [z] at hb2; exact absurd hb2 (by decide)
      have x7 := x6.trans e7
      refine q_asgS (es_term (h := h) (n := 2 * n + 2) (ea_cons (ev_var rfl) (ea_cons (ev_is (ev_op (ev_op ev_c (ev_var rfl) (rv_I (.inl ⟨by decide, by decide⟩))) ev_c rv_I0) (by rw [show ((2 * n + 2 : Nat) : Int) = 2 * (n : Int) + 2 by omega])) ea_nil)) (x7 _ _ hrl) hrow hlen hh1 (by omega) (by omega) (by omega)) (fun v H8 e8 ⟨a2, p2, hv, t2, o2⟩ => ?_)
      subst hv
      have x8 := x7.trans e8
      have t1' := t1.ex (e7.trans e8)
      refine q_when (b := decide (V.int kd = V.int 3)) (et_test (ev_op (ev_var rfl) ev_c (rv_eq rfl))) (fun _ H9 e9 => ?_) (fun hb3 H9 e9 => ?_)
      · have x9 := x8.trans e9
        refine es_opd (E := fun _ => E0) (σ := [some (.ref rl), some (.int (n : Int)), some (.int (9 * (n : Int))), some (.int kd), none, some (.ref a1), some (.ref a2), none, none]) (d := y1) (ea_cons (ix1 x9 rfl rfl) ea_nil) b1 c1 H9 (Ex.refl H9) _ (fun v H10 e10 ⟨l, hv, hl⟩ => ?_)
        subst hv
        refine es_opd (E := fun _ => E0) (σ := [some (.ref rl), some (.int (n : Int)), some (.int (9 * (n : Int))), some (.int kd), none, some (.ref a1), some (.ref a2), none, none]) (d := y2) (ea_cons (ix2 (x9.trans e10) rfl rfl) ea_nil) b2 c2 H10 (Ex.refl H10) _ (fun v H11 e11 ⟨r, hv, hr'⟩ => ?_)
        subst hv
        have x11 := (x9.trans e10).trans e11
        refine ⟨_, rfl, _, rfl, by show 5 ≤ sizeLine; decide, fun a ha => q a (.cond l r p1 p2) _ (fresh_back x11 ha) (x11.trans (Ex.new ha)) ?_ (ok_cond1 hh1 hl hr' o1 o2)⟩
        unfold TrAt
        exact ⟨a1, a2, upd_same, t1'.ex (((e9.trans e10).trans e11).trans (Ex.new ha)), t2.ex (((e9.trans e10).trans e11).trans (Ex.new ha))⟩
      have x9 := x8.trans e9
      refine q_off1 (k := 9 * n + 1) (row := row) (ea_cons (ev_var rfl) (ea_cons (ev_is (ev_op (ev_var rfl) ev_c rv_I0) (by rw [show ((9 * n + 1 : Nat) : Int) = 9 * (n : Int) + 1 by omega])) (ea_cons (ev_var rfl) ea_nil))) (x9 _ _ hrl) hrow (by omega) (by omega) (fun ch s m op ns o u l H10 H11 e10 h10 h10' ok10 hln hH11 => ?_)
      have x10 := x9.trans e10
      have t1b := t1'.ex (e9.trans e10)
      have t2b := t2.ex (e9.trans e10)
      subst hH11
      have x11 := x10.trans (Ex.new (o := .lst [.ref o]) hln)
      refine q_cut (M := fun σ' H' => ∃ (os : Ofs) (xs : List V), σ' = [some (.ref rl), some (.int (n : Int)), some (.int (9 * (n : Int))), some (.int kd), none, some (.ref a1), some (.ref a2), some (.ref l), none] ∧ H' l = some (.lst xs) ∧ OfsTr H' xs os ∧ TrOk (h + 1) (.choice os) ∧ Ex H H') ?_ (fun σ' H' ⟨os, xs, hσ, g1', g2', g3', he⟩ => ?_)
      · refine s_when (b := decide (V.int kd = V.int 5)) (et_test (ev_op (ev_var rfl) ev_c (rv_eq rfl))) (fun _ H12 e12 => ?_) (fun _ H12 e12 => ?_)
        · have y12 : Ex H10 H12 := (Ex.new hln).trans e12
          have hl12 : H12 l = some (.lst [.ref o]) := e12 _ _ upd_same
          refine s_off2 (k := 9 * n + 5) (row := row) hl12 (by show 1 ≤ 100; decide) (ev_var rfl) (ea_cons (ev_var rfl) (ea_cons (ev_is (ev_op (ev_var rfl) ev_c rv_I0) (by rw [show ((9 * n + 5 : Nat) : Int) = 9 * (n : Int) + 5 by omega])) (ea_cons (ev_var rfl) ea_nil))) ((x10.trans y12) _ _ hrl) hrow (by omega) (by omega) (fun ch' s' m' op' ns' o' u' H13 e13 h13 h13' ok13 no nu => ?_)
          have ym : Ex H10 (upd H13 l (.lst ([.ref o] ++ [.ref o']))) := Ex.mut (y12.trans e13) hln
          refine ⟨.cons ch s m op ns p1 (.cons ch' s' m' op' ns' p2 .nil), _, rfl, upd_same, ?_, ok_off2 hh1 ok10 ok13 o1 o2, x10.trans ym⟩
          unfold OfsTr OfsTr OfsTr
          exact ⟨o, u, a1, [.ref o'], rfl, ym _ _ h10, ym _ _ h10', t1b.ex ym, o', u', a2, [], rfl, by rw [upd_ne no]; exact h13, by rw [upd_ne nu]; exact h13', t2b.ex ym, rfl⟩
        · have y12 : Ex H10 H12 := (Ex.new hln).trans e12
          refine ⟨.cons ch s m op ns p1 .nil, [.ref o], rfl, e12 _ _ upd_same, ?_, ok_off1 hh1 ok10 o1, x10.trans y12⟩
          unfold OfsTr OfsTr
          exact ⟨o, u, a1, [], rfl, y12 _ _ h10, y12 _ _ h10', t1b.ex y12, rfl⟩
      · subst hσ
        refine ⟨_, rfl, by show 2 ≤ sizeLine; decide, fun a ha => q a (.choice os) _ (fresh_back he ha) (he.trans (Ex.new ha)) ?_ g3'⟩
        unfold TrAt
        exact ⟨l, xs, upd_same, (Ex.new ha) _ _ g1', g2'.ex (Ex.new ha)⟩
end
end Fs

set_option Elab.async false
set_option linter.all false
set_option maxRecDepth 100000
set_option maxHeartbeats 8000000
namespace Fs
open PySem L2 Evl FsE FsC FsR FsT FsK
structure StaT (P : Program) (w : World) (K : PySem.W.Frag) (mg : Str → Option Value) (base : Heap) (C CB : Addr) (k : Nat) : Prop where
  mgC : mg "Process" = some (.ref C)
  stop : StaX P w K mg base (L2.CX P w) k C "stop" (spStop C CB)
  new : StaX P w K mg base (L2.CX P w) k C "new" (spNew C CB)
  when : StaX P w K mg base (L2.CX P w) k C "when" (spWhen C CB)
  call : StaX P w K mg base (L2.CX P w) k C "call" (spCall K C CB)
  offer : StaX P w K mg base (L2.CX P w) k C "offer" (spOffer C CB)
  add : ∃ (g : Addr) (fd : FuncData) (ps : List Str), OpM K C .Add g ∧ FnOk P w K mg base (L2.CX P w) k g fd ps (spAdd C CB) ∧ Binds K fd ps []
theorem Ofs.app_depth : ∀ os qs : Ofs, (os.app qs).depth = max os.depth qs.depth
  | .nil, qs => by
    show qs.depth = max (Ofs.depth .nil) qs.depth
    have h := Ofs.depth_nn qs
    rw [Ofs.depth]
    omega
  | .cons c s m op ns r os, qs => by
    have ih := Ofs.app_depth os qs
    show Ofs.depth (.cons c s m op ns r (os.app qs)) = max (Ofs.depth (.cons c s m op ns r os)) _
    rw [Ofs.depth, Ofs.depth, ih]
    omega
theorem Ofs.app_sum : ∀ os qs : Ofs, (os.app qs).sum = os.sum + qs.sum
  | .nil, qs => by
    show qs.sum = Ofs.sum .nil + qs.sum
    rw [Ofs.sum]
    omega
  | .cons c s m op ns r os, qs => by
    have ih := Ofs.app_sum os qs
    show Ofs.sum (.cons c s m op ns r (os.app qs)) = Ofs.sum (.cons c s m op ns r os) + _
    rw [Ofs.sum, Ofs.sum, ih]
    omega
theorem Ofs.app_assoc : ∀ a b c : Ofs, (a.app b).app c = a.app (b.app c)
  | .nil, _, _ => rfl
  | .cons ch s m op ns r os, b, c => by
    show Ofs.cons ch s m op ns r ((os.app b).app c) = Ofs.cons ch s m op ns r (os.app (b.app c))
    rw [Ofs.app_assoc os b c]
mutual
theorem Pr.size_pos : ∀ p : Pr, 1 ≤ p.size
  | .choice os => by
    have := Ofs.sum_nn os
    rw [Pr.size]
    omega
  | .new n k r => by
    have := Pr.size_pos r
    rw [Pr.size]
    omega
  | .cond l r y n => by
    have := Pr.size_pos y
    have := Pr.size_pos n
    rw [Pr.size]
    omega
  | .call n ops => by
    rw [Pr.size]
    decide
theorem Ofs.sum_nn : ∀ os : Ofs, 0 ≤ os.sum
  | .nil => by
    rw [Ofs.sum]
    decide
  | .cons c s m op ns r os => by
    have := Pr.size_pos r
    have := Ofs.sum_nn os
    rw [Ofs.sum]
    omega
end
theorem AlO.app : ∀ {a b : Ofs}, AlO (a.app b) → AlO a ∧ AlO b
  | .nil, b, h => ⟨by unfold AlO; trivial, h⟩
  | .cons c s m op ns r os, b, h => by
    have h' : AlO (.cons c s m op ns r (os.app b)) := h
    unfold AlO at h'
    obtain ⟨h1, h2, h3⟩ := h'
    obtain ⟨h4, h5⟩ := AlO.app h3
    refine ⟨?_, h5⟩
    unfold AlO
    exact ⟨h1, h2, h4⟩
/-! nothing that is allowed is refused -/
theorem bi_none {p : Pr} (hd : p.depth ≤ 20) (hs : p.size ≤ 400) : badInit p = none := by
  unfold badInit
  rw [if_pos hd, if_pos hs]
theorem seats_B {m : Int} (m1 : 1 ≤ m) (m4 : m ≤ 4) : seatsV (.int m) = true := by
  show (decide (1 ≤ m) && decide (m ≤ 4)) = true
  rw [decide_eq_true m1, decide_eq_true m4]
  rfl
theorem bn_none {z : Str} {k : Int} {r : Pr} (hz : WordOk z) (k1 : 1 ≤ k) (k4 : k ≤ 4) (hd : (Pr.new z k r).depth ≤ 20) (hs : (Pr.new z k r).size ≤ 400) : badNew z k r = none := by
  unfold badNew
  rw [if_pos hz.nm, if_pos (seats_B k1 k4)]
  exact bi_none hd hs
theorem bw_none {l r : Opd} {y n : Pr} (hl : OpdOk l) (hr : OpdOk r) (hd : (Pr.cond l r y n).depth ≤ 20) (hs : (Pr.cond l r y n).size ≤ 400) : badWhen l r y n = none := by
  unfold badWhen
  rw [if_pos (opdOk_v hl), if_pos (opdOk_v hr)]
  exact bi_none hd hs
theorem bc_none {z : Str} {ops : List Opd} (hz : WordOk z) (hl : ops.length ≤ 4) (ho : ∀ o ∈ ops, OpdOk o) : badCall z ops = none := by
  have h1 : (ops.map fun o => operandV o.v).all id = true := by
    rw [List.all_eq_true]
    intro b hb
    obtain ⟨o, ho', rfl⟩ := List.mem_map.mp hb
    exact opdOk_v (ho o ho')
  unfold badCall opsOk
  rw [if_pos hz.nm, if_pos (by rw [h1, decide_eq_true (by omega)]; rfl)]
  exact bi_none (by rw [Pr.depth]; decide) (by rw [Pr.size]; decide)
theorem bo_none {c : Str} {s m : Int} {op : Opd} {ns : List Str} {r : Pr} (h : OfOk c s m op ns) (hd : (Pr.choice (.cons c s m op ns r .nil)).depth ≤ 20) (hs : (Pr.choice (.cons c s m op ns r .nil)).size ≤ 400) : badOffer c s m op ns r = none := by
  unfold badOffer
  rw [if_pos h.ch.nm, if_pos (seats_B h.m1 h.m4), if_pos (by rw [decide_eq_true h.s0, decide_eq_true h.s1]; rfl), if_pos (opdOk_v h.op), if_pos (by rw [h.nl, decide_eq_true rfl, h.nd]; rfl)]
  exact bi_none hd hs
theorem ba_none {a b : Ofs} (hl : a.len + b.len ≤ 6) (hd : (Pr.choice (a.app b)).depth ≤ 20) (hs : (Pr.choice (a.app b)).size ≤ 400) : badAdd (.choice a) (.choice b) = none := by
  unfold badAdd
  rw [if_pos (show ((Pr.choice a).isCh && (Pr.choice b).isCh) = true from rfl)]
  show (if a.len + b.len ≤ 6 then badInit (.choice (a.app b)) else some "offers") = none
  rw [if_pos hl]
  exact bi_none hd hs
theorem ch_num (os : Ofs) : (Pr.choice os).depth = 1 + os.depth ∧ (Pr.choice os).size = max 1 (os.len : Int) + os.sum := ⟨by rw [Pr.depth], by rw [Pr.size]⟩
def spMade (C : Addr) (d : Nat) : Sp := fun vs H Q _ => ∃ (a : Addr) (p : Pr), vs = [.ref a] ∧ TrAt H a p ∧ AlP p ∧ p.depth ≤ (d : Int) ∧ d ≤ 20 ∧ p.size ≤ 400 ∧ ∀ c H', H c = none → Ex H H' → PrAt C H' c p → Q (.ref c) H'
section
variable {P : Program} {w : World} {K : PySem.W.Frag} {mg : Str → Option Value} {base : Heap} {C CB : Addr}
abbrev nsMade : List Str := ["_law_term_here", "_law_made_here", "_law_channel", "_law_seat", "_law_seats", "_law_operand_here", "_law_names", "_law_rest"]
theorem scMade : FnScope nsMade ["_law_term_here"] (defScope (topS 45)) := ⟨rfl, rfl, rfl, by decide +kernel, rfl, by decide +kernel, by decide +kernel⟩
theorem kC_C : decide (V.str ("choice" : Str) = V.str "choice") = true := by decide +kernel
theorem kN_C : decide (V.str ("new" : Str) = V.str "choice") = false := by decide +kernel
theorem kN_N : decide (V.str ("new" : Str) = V.str "new") = true := by decide +kernel
theorem kI_C : decide (V.str ("if" : Str) = V.str "choice") = false := by decide +kernel
theorem kI_N : decide (V.str ("if" : Str) = V.str "new") = false := by decide +kernel
theorem kI_I : decide (V.str ("if" : Str) = V.str "if") = true := by decide +kernel
theorem kL_C : decide (V.str ("call" : Str) = V.str "choice") = false := by decide +kernel
theorem kL_N : decide (V.str ("call" : Str) = V.str "new") = false := by decide +kernel
theorem kL_I : decide (V.str ("call" : Str) = V.str "if") = false := by decide +kernel
theorem ok_made {f : Addr} {fd : FuncData} (F : Fun K "_law_made" "_law_made" (topS 45) f fd) (S : StaT P w K mg base C CB 5) (hlist : mg "list" = none) (hm : mg "_law_made" = some (.ref f)) (kp : PySem.W.keepIn K (.ref f) = true) (bd : Binds K fd ["_law_term_here"] []) : ∀ d : Nat, FnOk P w K mg base CX0 (6 + d) f fd ["_law_term_here"] (spMade C d)
  | 0 => by
    refine F.ok scMade (fun vs H Q E h => ?_) (fun cdv A outer s H vs Q E hr h => ?_)
    · obtain ⟨a, p, rfl, _⟩ := h
      rfl
    · obtain ⟨a, p, rfl, _, _, hd, _⟩ := h
      have := Pr.depth_pos p
      exact absurd hd (by omega)
  | d + 1 => by
    have ih := ok_made F S hlist hm kp bd d
    have GM : CalX P w K mg base CX0 (6 + d) "_law_made" (spMade C d) := ⟨f, fd, _, ih, hm, kp, bd⟩
    refine F.ok (k := 6 + d) scMade (fun vs H Q E h => ?_) (fun cdv A outer s H vs Q E hr h => ?_)
    · obtain ⟨a, p, rfl, _⟩ := h
      rfl
    · obtain ⟨a, p, rfl, ht, hal, hd, hd20, hs, q⟩ := h
      obtain ⟨g, fdg, psg, OM, FA, BA⟩ := S.add
      refine ⟨_, pss_cons (ps_if (pt_cmpR op_eq (pe_ix ix_tup (pv 0) pe_int (fun _ _ => rfl)) pe_str (nomark _))
          (pss_cons (ps_set (i := 1) scMade.nd rfl (Or.inl rfl) (pe_sx0 (E := fun _ => E0) S.stop hr (by omega) (pe_glob (v := .ref C) (by rfl) S.mgC rfl) (fun σ => passesAt_of passL σ)))
          (pss_cons (ps_for PassesOwn.never rfl (pi_list (pe_ix ix_tup (pv 0) pe_int (fun _ _ => rfl))) (pg_tup rfl (pgs_cons (pg_name (i := 2) scMade.nd rfl (.inl rfl)) (pgs_cons (pg_name (i := 3) scMade.nd rfl (.inl rfl)) (pgs_cons (pg_name (i := 4) scMade.nd rfl (.inl rfl)) (pgs_cons (pg_name (i := 5) scMade.nd rfl (.inl rfl)) (pgs_cons (pg_name (i := 6) scMade.nd rfl (.inl rfl)) (pgs_cons (pg_name (i := 7) scMade.nd rfl (.inl rfl)) pgs_nil)))))))
            (pss_one (ps_set (i := 1) scMade.nd rfl (Or.inl rfl) (pe_own (E := fun _ => E0) (pv 1) (pe_sx (E := fun _ => E0) S.offer hr (by omega) (pe_glob (v := .ref C) (by rfl) S.mgC rfl) (fun σ => passesAt_of passL σ)
              (pa_cons (pv 2) (pa_cons (pv 3) (pa_cons (pv 4) (pa_cons (pv 5) (pa_cons (pe_callTy call_list_of (by rfl) hlist (by decide +kernel) (pa_cons (pv 6) pa_nil)) (pa_cons (pe_cx (E := fun _ => E0) GM hr (Nat.le_refl _) (by rfl) at0 (pa_cons (pv 7) pa_nil)) pa_nil))))))) OM FA (hr.mono (by omega)) BA (fun σ => passesAt_of passL σ)))))
          (pss_one (ps_ret (pv 1))))) pss_nil)
        (pss_cons (ps_if (pt_cmpR op_eq (pe_ix ix_tup (pv 0) pe_int (fun _ _ => rfl)) pe_str (nomark _)) (pss_one (ps_ret (pe_sx (E := fun _ => E0) S.new hr (by omega) (pe_glob (v := .ref C) (by rfl) S.mgC rfl) (fun σ => passesAt_of passL σ)
            (pa_cons (pe_ix ix_tup (pv 0) pe_int (fun _ _ => rfl)) (pa_cons (pe_ix ix_tup (pv 0) pe_int (fun _ _ => rfl)) (pa_cons (pe_cx (E := fun _ => E0) GM hr (Nat.le_refl _) (by rfl) at0 (pa_cons (pe_ix ix_tup (pv 0) pe_int (fun _ _ => rfl)) pa_nil)) pa_nil)))))) pss_nil)
        (pss_cons (ps_if (pt_cmpR op_eq (pe_ix ix_tup (pv 0) pe_int (fun _ _ => rfl)) pe_str (nomark _)) (pss_one (ps_ret (pe_sx (E := fun _ => E0) S.when hr (by omega) (pe_glob (v := .ref C) (by rfl) S.mgC rfl) (fun σ => passesAt_of passL σ)
            (pa_cons (pe_ix ix_tup (pv 0) pe_int (fun _ _ => rfl)) (pa_cons (pe_ix ix_tup (pv 0) pe_int (fun _ _ => rfl)) (pa_cons (pe_cx (E := fun _ => E0) GM hr (Nat.le_refl _) (by rfl) at0 (pa_cons (pe_ix ix_tup (pv 0) pe_int (fun _ _ => rfl)) pa_nil)) (pa_cons (pe_cx (E := fun _ => E0) GM hr (Nat.le_refl _) (by rfl) at0 (pa_cons (pe_ix ix_tup (pv 0) pe_int (fun _ _ => rfl)) pa_nil)) pa_nil))))))) pss_nil)
        (pss_one (ps_ret (pe_sx (E := fun _ => E0) S.call hr (by omega) (pe_glob (v := .ref C) (by rfl) S.mgC rfl) (fun σ => passesAt_of passL σ)
            (pa_cons (pe_ix ix_tup (pv 0) pe_int (fun _ _ => rfl)) (pa_cons (pe_callTy call_list_of (by rfl) hlist (by decide +kernel) (pa_cons (pe_ix ix_tup (pv 0) pe_int (fun _ _ => rfl)) pa_nil)) pa_nil))))))), ?_⟩
      have hdS : (d : Int) + 1 ≤ 20 := by omega
      have ixk : ∀ {xs : List V} {H9 : Hp} {σ9 : L2.St} {i : Int} {v : V}, H9 a = some (.tup xs) → σ9[0]? = some (some (.ref a)) → atI xs i = some v → Ev (tOp (rIxT K) (tVar 0) (tC (.int i))) σ9 H9 v := fun h9 s0 g => ev_op (ev_var s0) ev_c (rv_ixT (st_of h9) g)
      cases p with
      | choice os =>
        unfold TrAt at ht
        obtain ⟨l, xs, h1, h2, h3⟩ := ht
        unfold AlP at hal
        obtain ⟨hlen, hao⟩ := hal
        obtain ⟨nd, nz⟩ := ch_num os
        rw [nd] at hd
        rw [nz] at hs
        refine q_when (b := true) (et_is (et_test (ev_op (ixk h1 rfl rfl) ev_c (rv_eq rfl))) kC_C) (fun _ H1 e1 => ?_) (fun hb => nomatch hb)
        refine ⟨rfl, rfl, fun _ b0 H2 hb0 e2 hp0 => ?_, fun f hf => nomatch hf⟩
        have x2 := e1.trans e2
        refine q_forL (a := l) (xs := xs) (ixk (x2 _ _ h1) rfl rfl) (sq_of (x2 _ _ h2)) (fun i σ' H' => ∃ (b : Addr) (pre post : Ofs) (v2 v3 v4 v5 v6 v7 : Option V), σ' = [some (.ref a), some (.ref b), v2, v3, v4, v5, v6, v7] ∧ os = pre.app post ∧ OfsTr H' (xs.drop i) post ∧ PrAt C H' b (.choice pre) ∧ H b = none ∧ Ex H H')
          (fun H3 e3 => ⟨b0, .nil, os, _, _, _, _, _, _, rfl, rfl, h3.ex (x2.trans e3), hp0.ex e3, fresh_back e1 hb0, x2.trans e3⟩) (fun i σ' H' _ ⟨_, _, _, _, _, _, _, _, _, _, _, _, _, _, he⟩ => sq_of (he _ _ h2)) (fun i x σ' H' hx ⟨b, pre, post, v2, v3, v4, v5, v6, v7, hσ, hos, hof, hpb, hbn, he⟩ => ?_) (fun σ' H' ⟨b, pre, post, v2, v3, v4, v5, v6, v7, hσ, hos, hof, hpb, hbn, he⟩ => ?_)
        · subst hσ
          have hd0 : (xs.drop i)[0]? = some x := by rw [List.getElem?_drop, Nat.add_zero]; exact hx
          cases post with
          | nil =>
            unfold OfsTr at hof
            rw [hof] at hd0
            cases hd0
          | cons ch s m op ns r post =>
            unfold OfsTr at hof
            obtain ⟨o, u, b2, qs, hdr, ho, hu, htr, hof⟩ := hof
            rw [hdr] at hd0
            obtain rfl : x = .ref o := (Option.some.inj hd0).symm
            have hdr1 : xs.drop (i + 1) = qs := by rw [← List.drop_drop, hdr]; rfl
            rw [hos] at hao
            obtain ⟨ap, aq⟩ := AlO.app hao
            unfold AlO at aq
            obtain ⟨ofk, alr, alq⟩ := aq
            have eD : os.depth = max pre.depth (max r.depth post.depth) := by rw [hos, Ofs.app_depth, Ofs.depth]
            have eS : os.sum = pre.sum + (r.size + post.sum) := by rw [hos, Ofs.app_sum, Ofs.sum]
            have eL : os.len = pre.len + (post.len + 1) := by rw [hos, Ofs.app_len]; rfl
            have p1 := Ofs.sum_nn pre
            have p2 := Ofs.sum_nn post
            have p3 := Pr.size_pos r
            have p4 := Ofs.depth_nn pre
            have p5 := Ofs.depth_nn post
            have p6 := Pr.depth_pos r
            have oD : (Ofs.cons ch s m op ns r .nil).depth = max r.depth 0 := by rw [Ofs.depth, Ofs.depth]
            have oS : (Ofs.cons ch s m op ns r .nil).sum = r.size + 0 := by rw [Ofs.sum, Ofs.sum]
            have oL : (Ofs.cons ch s m op ns r .nil).len = 1 := rfl
            refine ⟨o, _, rfl, st_of ho, rfl, _, _, rfl, _, _, rfl, _, _, rfl, _, _, rfl, _, _, rfl, _, _, rfl, rfl, ?_⟩
            refine ⟨_, rfl, rfl, _, rfl, _, rfl, _, rfl, _, rfl, _, rfl, u, _, rfl, .inl (sq_of hu), fun lu hlu => ⟨_, rfl, b2, r, rfl, htr.ex (Ex.new hlu), alr, by omega, by omega, by omega, fun c H3 hc e3 h3' => ?_⟩⟩
            have y3 : Ex H' H3 := (Ex.new hlu).trans e3
            refine ⟨ch, s, m, op, lu, ns, c, r, rfl, by have := ofk.ch.len; omega, opdOk_ok ofk.op, .inl (e3 _ _ upd_same), by have := ofk.nl; have := ofk.m4; omega, (fun y hy => by have := (ofk.nz y hy).1; omega), h3', fun _ c2 H4 hc2 e4 h4 => ?_, fun f hf => by
              rw [bo_none ofk (by rw [(ch_num _).1, oD]; omega) (by rw [(ch_num _).2, oS, oL]; omega)] at hf
              cases hf⟩
            have y4 := y3.trans e4
            have b4 := hpb.ex y4
            obtain ⟨tt1, xs1, ⟨dx, i1⟩, _⟩ := b4.out
            obtain ⟨tt2, xs2, ⟨dy, i2⟩, _⟩ := h4.out
            refine ⟨b, c2, dx, dy, _, _, rfl, rfl, i1, i2, b, c2, .choice pre, .choice (.cons ch s m op ns r .nil), rfl, b4, h4, by show pre.len ≤ 40; omega, by show 1 ≤ 40; decide, fun _ c5 H5 hc5 e5 h5 => ?_, fun f hf => by
              rw [ba_none (by rw [oL]; omega) (by rw [(ch_num _).1, Ofs.app_depth, oD]; omega) (by rw [(ch_num _).2, Ofs.app_sum, Ofs.app_len, oS, oL]; omega)] at hf
              cases hf⟩
            have y5 := y4.trans e5
            exact ⟨c5, pre.app (.cons ch s m op ns r .nil), post, _, _, _, _, _, _, rfl, by rw [Ofs.app_assoc]; exact hos, by rw [hdr1]; exact hof.ex y5, h5, fresh_back (he.trans y4) hc5, he.trans y5⟩
        · subst hσ
          rw [List.drop_length] at hof
          cases post with
          | nil =>
            rw [Ofs.app_nil] at hos
            subst hos
            exact s_ret (ev_var rfl) (fun H5 e5 => q b H5 hbn (he.trans e5) (hpb.ex e5))
          | cons ch s m op ns r post =>
            unfold OfsTr at hof
            obtain ⟨o, u, b2, qs, hdr, _⟩ := hof
            cases hdr
      | new n kk r =>
        unfold TrAt at ht
        obtain ⟨b, h1, h2⟩ := ht
        unfold AlP at hal
        obtain ⟨hn, k1, k4, alr⟩ := hal
        have eD : (Pr.new n kk r).depth = 1 + r.depth := by rw [Pr.depth]
        have eS : (Pr.new n kk r).size = 1 + r.size := by rw [Pr.size]
        refine q_when (b := false) (et_is (et_test (ev_op (ixk h1 rfl rfl) ev_c (rv_eq rfl))) kN_C) (fun hb => nomatch hb) (fun _ H1 e1 => ?_)
        refine q_when (b := true) (et_is (et_test (ev_op (ixk (e1 _ _ h1) rfl rfl) ev_c (rv_eq rfl))) kN_N) (fun _ H2 e2 => ?_) (fun hb => nomatch hb)
        have x2 := e1.trans e2
        refine ⟨rfl, (ixk (σ9 := [some (.ref a), none, none, none, none, none, none, none]) (i := 1) (v := .str n) (x2 _ _ h1) rfl rfl : Ev _ _ H2 _) H2 (Ex.refl H2) _ (fun H3 e3 => ?_)⟩
        have x3 := x2.trans e3
        refine (ixk (σ9 := [some (.ref a), none, none, none, none, none, none, none]) (i := 2) (v := .int kk) (x3 _ _ h1) rfl rfl : Ev _ _ H3 _) H3 (Ex.refl H3) _ (fun H4 e4 => ?_)
        have x4 := x3.trans e4
        refine (ixk (σ9 := [some (.ref a), none, none, none, none, none, none, none]) (i := 3) (v := .ref b) (x4 _ _ h1) rfl rfl : Ev _ _ H4 _) H4 (Ex.refl H4) _ (fun H5 e5 => ?_)
        have x5 := x4.trans e5
        refine ⟨b, r, rfl, h2.ex x5, alr, by omega, by omega, by omega, fun c H6 hc e6 h6 => ?_⟩
        refine ⟨n, kk, c, r, rfl, by have := hn.len; omega, h6, fun _ c2 H7 hc2 e7 h7 => q c2 H7 (fresh_back (x5.trans e6) hc2) ((x5.trans e6).trans e7) h7, fun f hf => by
          rw [bn_none hn k1 k4 (by omega) (by omega)] at hf
          cases hf⟩
      | cond lo ro y n =>
        unfold TrAt at ht
        obtain ⟨b, b', h1, h2, h3⟩ := ht
        unfold AlP at hal
        obtain ⟨hl, hr', aly, aln⟩ := hal
        have eD : (Pr.cond lo ro y n).depth = 1 + max y.depth n.depth := by rw [Pr.depth]
        have eS : (Pr.cond lo ro y n).size = 1 + (y.size + n.size) := by rw [Pr.size]
        have p1 := Pr.size_pos y
        have p2 := Pr.size_pos n
        refine q_when (b := false) (et_is (et_test (ev_op (ixk h1 rfl rfl) ev_c (rv_eq rfl))) kI_C) (fun hb => nomatch hb) (fun _ H1 e1 => ?_)
        refine q_when (b := false) (et_is (et_test (ev_op (ixk (e1 _ _ h1) rfl rfl) ev_c (rv_eq rfl))) kI_N) (fun hb => nomatch hb) (fun _ H2 e2 => ?_)
        have x2 := e1.trans e2
        refine q_when (b := true) (et_is (et_test (ev_op (ixk (x2 _ _ h1) rfl rfl) ev_c (rv_eq rfl))) kI_I) (fun _ H3 e3 => ?_) (fun hb => nomatch hb)
        have x3 := x2.trans e3
        refine ⟨rfl, (ixk (σ9 := [some (.ref a), none, none, none, none, none, none, none]) (i := 1) (v := lo.v) (x3 _ _ h1) rfl rfl : Ev _ _ H3 _) H3 (Ex.refl H3) _ (fun H4 e4 => ?_)⟩
        have x4 := x3.trans e4
        refine (ixk (σ9 := [some (.ref a), none, none, none, none, none, none, none]) (i := 2) (v := ro.v) (x4 _ _ h1) rfl rfl : Ev _ _ H4 _) H4 (Ex.refl H4) _ (fun H5 e5 => ?_)
        have x5 := x4.trans e5
        refine (ixk (σ9 := [some (.ref a), none, none, none, none, none, none, none]) (i := 3) (v := .ref b) (x5 _ _ h1) rfl rfl : Ev _ _ H5 _) H5 (Ex.refl H5) _ (fun H6 e6 => ?_)
        have x6 := x5.trans e6
        refine ⟨b, y, rfl, h2.ex x6, aly, by omega, by omega, by omega, fun c H7 hc e7 h7 => ?_⟩
        have x7 := x6.trans e7
        refine (ixk (σ9 := [some (.ref a), none, none, none, none, none, none, none]) (i := 4) (v := .ref b') (x7 _ _ h1) rfl rfl : Ev _ _ H7 _) H7 (Ex.refl H7) _ (fun H8 e8 => ?_)
        have x8 := x7.trans e8
        refine ⟨b', n, rfl, h3.ex x8, aln, by omega, by omega, by omega, fun c' H9 hc' e9 h9 => ?_⟩
        have x9 := x8.trans e9
        refine ⟨lo, ro, c, c', y, n, rfl, opdOk_ok hl, opdOk_ok hr', h7.ex (e8.trans e9), h9, fun _ c2 H10 hc2 e10 h10 => q c2 H10 (fresh_back x9 hc2) (x9.trans e10) h10, fun f hf => by
          rw [bw_none hl hr' (by omega) (by omega)] at hf
          cases hf⟩
      | call n ops =>
        unfold TrAt at ht
        obtain ⟨u, h1, h2⟩ := ht
        unfold AlP at hal
        obtain ⟨hn, hol, hoo⟩ := hal
        refine q_when (b := false) (et_is (et_test (ev_op (ixk h1 rfl rfl) ev_c (rv_eq rfl))) kL_C) (fun hb => nomatch hb) (fun _ H1 e1 => ?_)
        refine q_when (b := false) (et_is (et_test (ev_op (ixk (e1 _ _ h1) rfl rfl) ev_c (rv_eq rfl))) kL_N) (fun hb => nomatch hb) (fun _ H2 e2 => ?_)
        have x2 := e1.trans e2
        refine q_when (b := false) (et_is (et_test (ev_op (ixk (x2 _ _ h1) rfl rfl) ev_c (rv_eq rfl))) kL_I) (fun hb => nomatch hb) (fun _ H3 e3 => ?_)
        have x3 := x2.trans e3
        refine ⟨rfl, (ixk (σ9 := [some (.ref a), none, none, none, none, none, none, none]) (i := 1) (v := .str n) (x3 _ _ h1) rfl rfl : Ev _ _ H3 _) H3 (Ex.refl H3) _ (fun H4 e4 => ?_)⟩
        have x4 := x3.trans e4
        refine (ixk (σ9 := [some (.ref a), none, none, none, none, none, none, none]) (i := 2) (v := .ref u) (x4 _ _ h1) rfl rfl : Ev _ _ H4 _) H4 (Ex.refl H4) _ (fun H5 e5 => ?_)
        have x5 := x4.trans e5
        refine ⟨u, _, rfl, .inl (sq_of (x5 _ _ h2)), fun lu hlu => ?_⟩
        refine ⟨n, lu, ops, rfl, by have := hn.len; omega, .inl upd_same, by omega, (fun o ho => opdOk_ok (hoo o ho)), fun _ c2 H7 hc2 e7 h7 => q c2 H7 (fresh_back x5 (fresh_back (Ex.new hlu) hc2)) ((x5.trans (Ex.new hlu)).trans e7) h7, fun f hf => by
          rw [bc_none hn hol hoo] at hf
          cases hf⟩
end
end Fs

set_option Elab.async false
set_option linter.all false
set_option maxRecDepth 100000
set_option maxHeartbeats 8000000
namespace Fs
open PySem L2 Evl FsE FsC FsR FsT FsK
/-- str of an int or a text -/
abbrev rStr : List V → Hp → VK → Prop := fun xs H Q => (∃ i, xs = [V.int i] ∧ i.natAbs.log2 < 1920 ∧ Q (.str (toString i)) H) ∨ ∃ a, xs = [V.str a] ∧ Q (.str a) H
theorem call_strX {X : Cx} : CallR X (.type "str") rStr := by
  intro pins s σ H xs us Q I r h
  rcases h with h | h
  · exact call_str_int pins s σ H xs us Q I r h
  · exact SkE.call_str_str pins s σ H xs us Q I r h
def opS : Opd → Str
  | .int i => Str.ofString (toString i)
  | .nm z => z
theorem log_ok {i : Int} (h : -(10 ^ 30) < i ∧ i < 10 ^ 30) : i.natAbs.log2 < 1920 := by
  have h1 : i.natAbs < 10 ^ 30 := by omega
  by_cases h0 : i.natAbs = 0
  · rw [h0]
    decide
  · rw [Nat.log2_lt h0]
    exact Nat.lt_trans h1 (by decide)
theorem int_len {i : Int} (h : -(10 ^ 30) < i ∧ i < 10 ^ 30) : (Str.ofString (toString i)).length ≤ 31 := by
  rw [ofString_length]
  exact int_text_length_le10 (k := 30) (by decide) (by omega)
theorem opS_len {o : Opd} (h : OpdOk o) : (opS o).length ≤ 31 := by
  cases o with
  | int i => exact int_len h
  | nm z =>
    show z.length ≤ 31
    have := h.len
    omega
theorem rc_strO {o : Opd} (h : OpdOk o) {H : Hp} : RC rStr [o.v] H (.str (opS o)) := fun H1 _ Q q => by
  cases o with
  | int i => exact .inl ⟨i, rfl, log_ok h, q H1 (Ex.refl H1)⟩
  | nm z => exact .inr ⟨z, rfl, q H1 (Ex.refl H1)⟩
theorem rc_strI {i : Int} (h : -(10 ^ 30) < i ∧ i < 10 ^ 30) {H : Hp} : RC rStr [.int i] H (.str (Str.ofString (toString i))) := fun H1 _ Q q => .inl ⟨i, rfl, log_ok h, q H1 (Ex.refl H1)⟩
abbrev iS (i : Int) : Str := Str.ofString (toString i)
/-- between brackets -/
def tkB (xs : List Str) : List Str := (["("] : List Str) ++ xs ++ ([")"] : List Str)
/-- an offer's tokens ahead of its rest -/
def tkH (c : Str) (s m : Int) (op : Opd) (ns : List Str) : List Str := ([c, iS s, "/", iS m, "put", opS op] : List Str) ++ (["get"] : List Str) ++ tkB ns ++ (["then"] : List Str)
theorem tkB_len (xs : List Str) : (tkB xs).length = xs.length + 2 := by
  unfold tkB
  simp only [List.length_append, List.length_cons, List.length_nil]
  omega
theorem tkH_len {c : Str} {s m : Int} {op : Opd} {ns : List Str} : (tkH c s m op ns).length = ns.length + 10 := by
  unfold tkH
  simp only [List.length_append, List.length_cons, List.length_nil, tkB_len]
  omega
mutual
/-- the tokens -/
def tkP : Pr → List Str
  | .choice .nil => (["stop"] : List Str)
  | .choice (.cons c s m op ns r os) => (["["] : List Str) ++ ((tkH c s m op ns ++ tkP r) ++ tkOs os) ++ (["]"] : List Str)
  | .new n k r => (["new", n, iS k] : List Str) ++ tkP r
  | .cond l r y n => (["if", opS l, "=", opS r, "then"] : List Str) ++ tkP y ++ (["else"] : List Str) ++ tkP n
  | .call n ops => [n] ++ tkB (ops.map opS)
def tkOs : Ofs → List Str
  | .nil => []
  | .cons c s m op ns r os => (["+"] : List Str) ++ (tkH c s m op ns ++ tkP r) ++ tkOs os
end
def tkO (c : Str) (s m : Int) (op : Opd) (ns : List Str) (r : Pr) : List Str := tkH c s m op ns ++ tkP r
theorem tkOs_app : ∀ a b : Ofs, tkOs (a.app b) = tkOs a ++ tkOs b
  | .nil, b => by
    show tkOs b = tkOs .nil ++ tkOs b
    rw [tkOs]
    rfl
  | .cons c s m op ns r os, b => by
    show tkOs (.cons c s m op ns r (os.app b)) = tkOs (.cons c s m op ns r os) ++ tkOs b
    rw [tkOs, tkOs, tkOs_app os b]
    simp only [List.append_assoc]
theorem tkOs_one {c : Str} {s m : Int} {op : Opd} {ns : List Str} {r : Pr} : tkOs (.cons c s m op ns r .nil) = (["+"] : List Str) ++ tkO c s m op ns r := by
  rw [tkOs, tkOs, List.append_nil]
  rfl
theorem tkP_ch {os : Ofs} (h : 0 < os.len) : tkP (.choice os) = (["["] : List Str) ++ (tkOs os).drop 1 ++ (["]"] : List Str) := by
  cases os with
  | nil => exact absurd h (by decide)
  | cons c s m op ns r os =>
    rw [tkP, tkOs]
    rfl
/-- few -/
theorem ns_len {c : Str} {s m : Int} {op : Opd} {ns : List Str} (h : OfOk c s m op ns) : ns.length ≤ 3 := by
  have h1 := h.nl
  have h2 := h.m4
  omega
mutual
theorem tkP_len : ∀ p : Pr, AlP p → ((tkP p).length : Int) ≤ 30 * p.size
  | .choice .nil, _ => by
    have := Pr.size_pos (.choice .nil)
    rw [tkP]
    show ((1 : Nat) : Int) ≤ _
    omega
  | .choice (.cons c s m op ns r os), h => by
    unfold AlP AlO at h
    obtain ⟨_, h1, h2, h3⟩ := h
    have e1 := tkP_len r h2
    have e2 := tkOs_len os h3
    have e3 := ns_len h1
    have e4 : (Ofs.cons c s m op ns r os).sum = r.size + os.sum := by rw [Ofs.sum]
    have e5 := (ch_num (.cons c s m op ns r os)).2
    have e6 : (Ofs.cons c s m op ns r os).len = os.len + 1 := rfl
    rw [tkP, e5, e4, e6]
    simp only [List.length_append, List.length_cons, List.length_nil, tkH_len, tkB_len]
    omega
  | .new n k r, h => by
    unfold AlP at h
    have e1 := tkP_len r h.2.2.2
    have e2 : (Pr.new n k r).size = 1 + r.size := by rw [Pr.size]
    rw [tkP, e2]
    simp only [List.length_append, List.length_cons, List.length_nil, tkH_len, tkB_len]
    omega
  | .cond l r y n, h => by
    unfold AlP at h
    have e1 := tkP_len y h.2.2.1
    have e2 := tkP_len n h.2.2.2
    have e3 : (Pr.cond l r y n).size = 1 + (y.size + n.size) := by rw [Pr.size]
    rw [tkP, e3]
    simp only [List.length_append, List.length_cons, List.length_nil, tkH_len, tkB_len]
    omega
  | .call n ops, h => by
    unfold AlP at h
    have e1 := h.2.1
    have e2 : (Pr.call n ops).size = 1 := by rw [Pr.size]
    rw [tkP, e2]
    simp only [List.length_append, List.length_cons, List.length_nil, List.length_map, tkB_len]
    omega
theorem tkOs_len : ∀ os : Ofs, AlO os → ((tkOs os).length : Int) ≤ 15 * (os.len : Int) + 30 * os.sum
  | .nil, _ => by
    rw [tkOs, Ofs.sum]
    decide
  | .cons c s m op ns r os, h => by
    unfold AlO at h
    obtain ⟨h1, h2, h3⟩ := h
    have e1 := tkP_len r h2
    have e2 := tkOs_len os h3
    have e3 := ns_len h1
    have e4 : (Ofs.cons c s m op ns r os).sum = r.size + os.sum := by rw [Ofs.sum]
    have e6 : (Ofs.cons c s m op ns r os).len = os.len + 1 := rfl
    rw [tkOs, e4, e6]
    simp only [List.length_append, List.length_cons, List.length_nil, tkH_len, tkB_len]
    omega
end
def spBr : Sp := fun vs H Q _ => ∃ (u : Addr) (ops : List Opd), vs = [.ref u] ∧ H u = some (.tup (ops.map Opd.v)) ∧ ops.length ≤ 100 ∧ (∀ o ∈ ops, OpdOk o) ∧ RetL ((tkB (ops.map opS)).map V.str) H Q
def spPT (C : Addr) (d : Nat) : Sp := fun vs H Q _ => ∃ (a : Addr) (p : Pr), vs = [.ref a] ∧ PrAt C H a p ∧ AlP p ∧ p.depth ≤ (d : Int) ∧ p.size ≤ 400 ∧ RetL ((tkP p).map V.str) H Q
def spOT (C : Addr) (d : Nat) : Sp := fun vs H Q _ => ∃ (o u b : Addr) (c : Str) (s m : Int) (op : Opd) (ns : List Str) (r : Pr), vs = [.ref o] ∧ H o = some (.tup [.str c, .int s, .int m, op.v, .ref u, .ref b]) ∧ H u = some (.tup (ns.map V.str)) ∧ PrAt C H b r ∧ OfOk c s m op ns ∧ (∀ y ∈ ns, WordOk y ∨ y.length ≤ 8) ∧ AlP r ∧ r.depth ≤ (d : Int) ∧ r.size ≤ 400 ∧ RetL ((tkO c s m op ns r).map V.str) H Q
def spCT (C : Addr) (d : Nat) : Sp := fun vs H Q _ => ∃ (t : Addr) (xs : List V) (os : Ofs), vs = [.ref t] ∧ H t = some (.tup xs) ∧ OfsAt C H xs os ∧ AlP (.choice os) ∧ os.depth ≤ (d : Int) ∧ os.sum ≤ 400 ∧ RetL ((tkP (.choice os)).map V.str) H Q
section
variable {σ : L2.St} {H : Hp} {ta tb te : TE} {K : PySem.W.Frag}
theorem mapS {xs ys : List Str} : xs.map V.str ++ ys.map V.str = (xs ++ ys).map V.str := List.map_append.symm
theorem el_catS {xs ys : List Str} (ha : EvL ta σ H (xs.map V.str)) (hb : EvL tb σ H (ys.map V.str)) (hz : xs.length + ys.length ≤ 100000) : EvL (tOp rCat ta tb) σ H ((xs ++ ys).map V.str) :=
  el_is (el_catLL ha hb (by rw [List.length_map, List.length_map, sizeLine_eq]; omega)) mapS
end
section
variable {P : Program} {w : World} {K : PySem.W.Frag} {mg : Str → Option Value} {base : Heap} {C CB : Addr}
theorem scBr : FnScope ["operands", "operand"] ["operands"] (defScope (topS 36)) := ⟨rfl, rfl, rfl, by decide +kernel, rfl, by decide +kernel, by decide +kernel⟩
theorem ok_br {f : Addr} {fd : FuncData} (F : Fun K "bracketed" "bracketed" (topS 36) f fd) (hstr : mg "str" = none) : FnOk P w K mg base CX0 1 f fd ["operands"] spBr := by
  refine F.ok scBr (fun vs H Q E h => ?_) (fun cdv A outer s H vs Q E hr h => ?_)
  · obtain ⟨u, ops, rfl, _⟩ := h
    rfl
  · obtain ⟨u, ops, rfl, hu, hl, ho, q⟩ := h
    refine ⟨_, pss_one (ps_ret (pe_op op_cat (pe_op op_cat (pe_lst (pa_cons pe_str pa_nil)) (pe_lc (own := [("operand", 1)]) (g := gName 1) (tt := tYes) (te := tCB rStr (tCons (tVar 1) tNil)) rfl scBr.nd (pi_tup (pv 0)) (blkOk_by (own := [("operand", 1)]) (N := ["operands", "operand"]) (sc := defScope (topS 36)) (by decide +kernel))
          (fun _ _ _ _ _ => pg_name (i := 1) scBr.nd rfl (Or.inl rfl)) (fun _ _ _ _ _ => pts_nil) (fun _ _ _ _ _ => pe_callTy call_strX (by rfl) hstr (by decide +kernel) (pa_cons (pv 1) pa_nil)))) (pe_lst (pa_cons pe_str pa_nil)))), ?_⟩
    refine s_retL (el_catS (xs := (["("] : List Str) ++ ops.map opS) (ys := ([")"] : List Str)) (el_catS (xs := (["("] : List Str)) (ys := ops.map opS) (el_lst (ea_cons ev_c ea_nil) (by show 1 ≤ 100000; decide)) ?_ ?_) (el_lst (ea_cons ev_c ea_nil) (by show 1 ≤ 100000; decide)) ?_) q
    · refine el_lcTy (ev_var rfl) (st_of hu) (by rw [List.length_map]; omega) (fun _ => rfl) (by rw [List.length_map, List.length_map, List.length_map]) (fun i x y H1 e hx hy => ?_)
      rw [List.map_map, List.getElem?_map] at hy
      rw [List.getElem?_map] at hx
      cases hoi : ops[i]? with
      | none =>
        rw [hoi] at hx
        cases hx
      | some o =>
        rw [hoi] at hx hy
        cases hx
        cases hy
        exact ev_cb (ea_cons (ev_var rfl) ea_nil) (rc_strO (ho o (List.mem_of_getElem? hoi)))
    · show 1 + (ops.map opS).length ≤ 100000
      rw [List.length_map]
      omega
    · rw [List.length_append, List.length_map]
      show 1 + ops.length + 1 ≤ 100000
      omega
end
end Fs

set_option Elab.async false
set_option linter.all false
set_option maxRecDepth 100000
set_option maxHeartbeats 8000000
namespace Fs
open PySem L2 Evl FsE FsC FsR FsT FsK
theorem iOk {i : Int} (h0 : 0 ≤ i) (h1 : i ≤ 100) : -(10 ^ 30) < i ∧ i < 10 ^ 30 := by
  constructor <;> omega
section
variable {σ : L2.St} {H : Hp} {ta tb te : TE} {tas : TA} {K : PySem.W.Frag} {C : Addr} {E : L2.St → XK}
theorem el_catV {l : Addr} {xs ys : List V} (ha : Ev ta σ H (.ref l)) (hl : H l = some (.lst xs)) (hb : EvL tb σ H ys) (hz : xs.length + ys.length ≤ sizeLine) : EvL (tOp rCat ta tb) σ H (xs ++ ys) := fun H1 e Q q =>
  ha H1 e _ fun H2 e2 => hb H2 (e.trans e2) _ fun p H3 hp e3 h3 => ⟨l, p, xs, ys, rfl, rfl, e3 _ _ (e2 _ _ (e _ _ hl)), h3, hz, fun r hr => q r _ (fresh_back (e2.trans e3) hr) ((e2.trans e3).trans (Ex.new hr)) upd_same⟩
theorem el_br {u : Addr} {ops : List Opd} (h : EvA tas σ H [.ref u]) (hu : H u = some (.tup (ops.map Opd.v))) (hl : ops.length ≤ 100) (ho : ∀ o ∈ ops, OpdOk o) : EvL (tCallS spBr E tas) σ H ((tkB (ops.map opS)).map V.str) := el_cx h fun H1 e1 Q q E => ⟨u, ops, rfl, e1 _ _ hu, hl, ho, q⟩
theorem el_pt {d : Nat} {a : Addr} {p : Pr} (h : EvA tas σ H [.ref a]) (hp : PrAt C H a p) (al : AlP p) (hd : p.depth ≤ (d : Int)) (hs : p.size ≤ 400) : EvL (tCallS (spPT C d) E tas) σ H ((tkP p).map V.str) := el_cx h fun H1 e1 Q q E => ⟨a, p, rfl, hp.ex e1, al, hd, hs, q⟩
theorem q_unp6 {a : Addr} {x1 x2 x3 x4 x5 x6 : V} {i1 i2 i3 i4 i5 i6 : Nat} {tz : TS} {D : Ends} (h : Ev ta σ H (.ref a)) (hx : H a = some (.tup [x1, x2, x3, x4, x5, x6])) (σ' : L2.St)
    (hσ : (((((σ.set i1 (some x1)).set i2 (some x2)).set i3 (some x3)).set i4 (some x4)).set i5 (some x5)).set i6 (some x6) = σ') (k : ∀ H1, Ex H H1 → tz D σ' H1) : tSeq (tAsg ta (gTup K 6 (gCons (gName i1) (gCons (gName i2) (gCons (gName i3) (gCons (gName i4) (gCons (gName i5) (gCons (gName i6) gNil)))))))) tz D σ H := by
  subst hσ
  exact h H (Ex.refl H) _ fun H1 e1 => ⟨a, _, rfl, st_of (e1 _ _ hx), rfl, _, _, rfl, _, _, rfl, _, _, rfl, _, _, rfl, _, _, rfl, _, _, rfl, rfl, k H1 e1⟩
theorem q_unp4 {a : Addr} {x1 x2 x3 x4 : V} {i1 i2 i3 i4 : Nat} {tz : TS} {D : Ends} (h : Ev ta σ H (.ref a)) (hx : H a = some (.tup [x1, x2, x3, x4])) (σ' : L2.St)
    (hσ : (((σ.set i1 (some x1)).set i2 (some x2)).set i3 (some x3)).set i4 (some x4) = σ') (k : ∀ H1, Ex H H1 → tz D σ' H1) : tSeq (tAsg ta (gTup K 4 (gCons (gName i1) (gCons (gName i2) (gCons (gName i3) (gCons (gName i4) gNil)))))) tz D σ H := by
  subst hσ
  exact h H (Ex.refl H) _ fun H1 e1 => ⟨a, _, rfl, st_of (e1 _ _ hx), rfl, _, _, rfl, _, _, rfl, _, _, rfl, _, _, rfl, rfl, k H1 e1⟩
theorem q_unp3 {a : Addr} {x1 x2 x3 : V} {i1 i2 i3 : Nat} {tz : TS} {D : Ends} (h : Ev ta σ H (.ref a)) (hx : H a = some (.tup [x1, x2, x3])) (σ' : L2.St)
    (hσ : ((σ.set i1 (some x1)).set i2 (some x2)).set i3 (some x3) = σ') (k : ∀ H1, Ex H H1 → tz D σ' H1) : tSeq (tAsg ta (gTup K 3 (gCons (gName i1) (gCons (gName i2) (gCons (gName i3) gNil))))) tz D σ H := by
  subst hσ
  exact h H (Ex.refl H) _ fun H1 e1 => ⟨a, _, rfl, st_of (e1 _ _ hx), rfl, _, _, rfl, _, _, rfl, _, _, rfl, rfl, k H1 e1⟩
theorem q_unp2 {a : Addr} {x1 x2 : V} {i1 i2 : Nat} {tz : TS} {D : Ends} (h : Ev ta σ H (.ref a)) (hx : H a = some (.tup [x1, x2])) (σ' : L2.St)
    (hσ : (σ.set i1 (some x1)).set i2 (some x2) = σ') (k : ∀ H1, Ex H H1 → tz D σ' H1) : tSeq (tAsg ta (gTup K 2 (gCons (gName i1) (gCons (gName i2) gNil)))) tz D σ H := by
  subst hσ
  exact h H (Ex.refl H) _ fun H1 e1 => ⟨a, _, rfl, st_of (e1 _ _ hx), rfl, _, _, rfl, _, _, rfl, rfl, k H1 e1⟩
end
theorem nmsV (ns : List Str) : (ns.map Opd.nm).map Opd.v = ns.map V.str := by rw [List.map_map]; rfl
theorem nmsS (ns : List Str) : (ns.map Opd.nm).map opS = ns := by rw [List.map_map]; exact List.map_id' ns
section
variable {P : Program} {w : World} {K : PySem.W.Frag} {mg : Str → Option Value} {base : Heap} {C CB : Addr}
/-- what the names of an offer are -/
theorem of_nms {c : Str} {s m : Int} {op : Opd} {ns : List Str} (h : OfOk c s m op ns) : ∀ y ∈ ns, WordOk y := fun y hy => by
  have hall := h.nd
  unfold namesS at hall
  have h1 := (Bool.and_eq_true_iff.mp hall).1
  have h2 := List.all_eq_true.mp h1 (nameS y) (List.mem_map_of_mem hy)
  exact ⟨h2, (h.nz y hy).1, (h.nz y hy).2⟩
abbrev nsOT : List Str := ["offer", "channel", "seat", "seats", "operand", "names", "rest", "given"]
theorem scOT : FnScope nsOT ["offer"] (defScope (topS 35)) := ⟨rfl, rfl, rfl, by decide +kernel, rfl, by decide +kernel, by decide +kernel⟩
theorem ok_ot {f : Addr} {fd : FuncData} {k d : Nat} (F : Fun K "offer_tokens" "offer_tokens" (topS 35) f fd) (hstr : mg "str" = none) (GB : CalX P w K mg base CX0 1 "bracketed" spBr) (GP : CalX P w K mg base CX0 k "process_tokens" (spPT C d)) (hk : 1 ≤ k) : FnOk P w K mg base CX0 (k + 1) f fd ["offer"] (spOT C d) := by
  refine F.ok scOT (fun vs H Q E h => ?_) (fun cdv A outer s H vs Q E hr h => ?_)
  · obtain ⟨o, u, b, c, s, m, op, ns, r, rfl, _⟩ := h
    rfl
  · obtain ⟨o, u, b, c, s, m, op, ns, r, rfl, ho, hu, hb, ok, _, al, hd, hs, q⟩ := h
    refine ⟨_, pss_cons (ps_asg (pv 0) (pg_tup rfl (pgs_cons (pg_name (i := 1) scOT.nd rfl (.inl rfl)) (pgs_cons (pg_name (i := 2) scOT.nd rfl (.inl rfl)) (pgs_cons (pg_name (i := 3) scOT.nd rfl (.inl rfl)) (pgs_cons (pg_name (i := 4) scOT.nd rfl (.inl rfl)) (pgs_cons (pg_name (i := 5) scOT.nd rfl (.inl rfl)) (pgs_cons (pg_name (i := 6) scOT.nd rfl (.inl rfl)) pgs_nil))))))))
      (pss_cons (ps_set (i := 7) scOT.nd rfl (Or.inl rfl) (pe_lst (pa_cons (pv 1) (pa_cons (pe_callTy call_strX (by rfl) hstr (by decide +kernel) (pa_cons (pv 2) pa_nil)) (pa_cons pe_str (pa_cons (pe_callTy call_strX (by rfl) hstr (by decide +kernel) (pa_cons (pv 3) pa_nil)) (pa_cons pe_str (pa_cons (pe_callTy call_strX (by rfl) hstr (by decide +kernel) (pa_cons (pv 4) pa_nil)) pa_nil))))))))
      (pss_one (ps_ret (pe_op op_cat (pe_op op_cat (pe_op op_cat (pe_op op_cat (pv 7) (pe_lst (pa_cons pe_str pa_nil))) (pe_cx (E := fun _ => E0) GB hr hk (by rfl) at0 (pa_cons (pv 5) pa_nil))) (pe_lst (pa_cons pe_str pa_nil))) (pe_cx (E := fun _ => E0) GP hr (Nat.le_refl _) (by rfl) at0 (pa_cons (pv 6) pa_nil)))))), ?_⟩
    refine q_unp6 (ev_var rfl) ho [some (.ref o), some (.str c), some (.int s), some (.int m), some op.v, some (.ref u), some (.ref b), none] rfl (fun H1 e1 => ?_)
    have hm := ok.m4
    have hm1 := ok.m1
    have hs0 := ok.s0
    have hs1 := ok.s1
    refine q_asgL (xs := ([c, iS s, "/", iS m, "put", opS op] : List Str).map V.str) (el_lst (ea_cons (ev_var rfl) (ea_cons (ev_cb (ea_cons (ev_var rfl) ea_nil) (rc_strI (iOk hs0 (by omega)))) (ea_cons ev_c (ea_cons (ev_cb (ea_cons (ev_var rfl) ea_nil) (rc_strI (iOk (by omega) (by omega)))) (ea_cons ev_c (ea_cons (ev_cb (ea_cons (ev_var rfl) ea_nil) (rc_strO ok.op)) ea_nil)))))) (by show 6 ≤ 100000; decide)) (fun l H2 hl e2 h2 => ?_)
    have x2 := e1.trans e2
    have nl := ns_len ok
    have pl := tkP_len r al
    have bl : (tkB ns).length = ns.length + 2 := tkB_len ns
    have eb : EvL (tCallS spBr (fun _ => E0) (tCons (tVar 5) tNil)) [some (.ref o), some (.str c), some (.int s), some (.int m), some op.v, some (.ref u), some (.ref b), some (.ref l)] H2 ((tkB ns).map V.str) := by
      have g := el_br (E := fun _ => E0) (σ := [some (.ref o), some (.str c), some (.int s), some (.int m), some op.v, some (.ref u), some (.ref b), some (.ref l)]) (H := H2) (tas := tCons (tVar 5) tNil) (u := u) (ops := ns.map Opd.nm) (ea_cons (ev_var rfl) ea_nil) (by rw [nmsV]; exact x2 _ _ hu) (by rw [List.length_map]; omega) (fun x hx => by
        obtain ⟨y, hy, rfl⟩ := List.mem_map.mp hx
        exact of_nms ok y hy)
      rw [nmsS] at g
      exact g
    refine s_retL (el_catS (xs := ([c, iS s, "/", iS m, "put", opS op] : List Str) ++ (["get"] : List Str) ++ tkB ns ++ (["then"] : List Str)) (ys := tkP r) (el_catS (xs := ([c, iS s, "/", iS m, "put", opS op] : List Str) ++ (["get"] : List Str) ++ tkB ns) (ys := (["then"] : List Str))
      (el_catS (xs := ([c, iS s, "/", iS m, "put", opS op] : List Str) ++ (["get"] : List Str)) (ys := tkB ns) (el_is (el_catV (ev_var rfl) h2 (el_lst (vs := [V.str "get"]) (ea_cons ev_c ea_nil) (by show 1 ≤ 100000; decide)) (by show 6 + 1 ≤ sizeLine; decide)) rfl) eb (by rw [bl]; show 6 + 1 + _ ≤ 100000; omega))
      (el_lst (ea_cons ev_c ea_nil) (by show 1 ≤ 100000; decide)) ?_) (el_pt (C := C) (ea_cons (ev_var rfl) ea_nil) (hb.ex x2) al hd hs) ?_) (fun p H3 hp e3 h3 => q p H3 (fresh_back x2 hp) (x2.trans e3) h3)
    · rw [List.length_append, bl]
      show 6 + 1 + _ + 1 ≤ 100000
      omega
    · rw [List.length_append, List.length_append, bl]
      show 6 + 1 + _ + 1 + _ ≤ 100000
      omega
end
end Fs

set_option Elab.async false
set_option linter.all false
set_option maxRecDepth 100000
set_option maxHeartbeats 8000000
namespace Fs
open PySem L2 Evl FsE FsC FsR FsT FsK
section
variable {σ : L2.St} {H : Hp} {ta tb te : TE} {tas : TA} {K : PySem.W.Frag} {C : Addr} {E : L2.St → XK}
theorem et_truT {a : Addr} {xs : List V} (h : Ev ta σ H (.ref a)) (hx : H a = some (.tup xs)) : EvT (fun σ H Q => ta σ H fun x H' => ∃ k, TruV K x H' k ∧ Q k H') σ H (!xs.isEmpty) := fun H1 e _ q =>
  h H1 e _ fun H2 e2 => ⟨_, .inr (.inl ⟨xs, st_of ((e.trans e2) _ _ hx), rfl⟩), q H2 e2⟩
theorem el_ot {d : Nat} {o u b : Addr} {c : Str} {s m : Int} {op : Opd} {ns : List Str} {r : Pr} (h : EvA tas σ H [.ref o]) (ho : H o = some (.tup [.str c, .int s, .int m, op.v, .ref u, .ref b])) (hu : H u = some (.tup (ns.map V.str))) (hb : PrAt C H b r) (ok : OfOk c s m op ns) (al : AlP r) (hd : r.depth ≤ (d : Int)) (hs : r.size ≤ 400) :
    EvL (tCallS (spOT C d) E tas) σ H ((tkO c s m op ns r).map V.str) := el_cx h fun H1 e1 Q q E => ⟨o, u, b, c, s, m, op, ns, r, rfl, e1 _ _ ho, e1 _ _ hu, hb.ex e1, ok, (fun y hy => .inr (ok.nz y hy).1), al, hd, hs, q⟩
end
theorem cut1 {xs : List V} (h : 1 ≤ xs.length) : cutV xs (some 1) none = xs.drop 1 := by
  unfold cutV
  rw [HT.sIx_none, show (some (1 : Int)) = some ((1 : Nat) : Int) from rfl, HT.sIx_nat, Nat.min_eq_left h]
  exact List.take_of_length_le (by rw [List.length_drop]; exact Nat.le_refl _)
theorem cut1S {xs : List Str} (h : 1 ≤ xs.length) : cutV (xs.map V.str) (some 1) none = (xs.drop 1).map V.str := by
  rw [cut1 (by rw [List.length_map]; exact h), List.map_drop]
section
variable {P : Program} {w : World} {K : PySem.W.Frag} {mg : Str → Option Value} {base : Heap} {C CB : Addr}
theorem scCT : FnScope ["offers", "tokens", "offer"] ["offers"] (defScope (topS 34)) := ⟨rfl, rfl, rfl, by decide +kernel, rfl, by decide +kernel, by decide +kernel⟩
theorem ok_ct {f : Addr} {fd : FuncData} {k d : Nat} (F : Fun K "choice_tokens" "choice_tokens" (topS 34) f fd) (GO : CalX P w K mg base CX0 k "offer_tokens" (spOT C d)) : FnOk P w K mg base CX0 (k + 1) f fd ["offers"] (spCT C d) := by
  refine F.ok scCT (fun vs H Q E h => ?_) (fun cdv A outer s H vs Q E hr h => ?_)
  · obtain ⟨t, xs, os, rfl, _⟩ := h
    rfl
  · obtain ⟨t, xs, os, rfl, ht, hof, al, hd, hs, q⟩ := h
    refine ⟨_, pss_cons (ps_if (pt_not (pt_truth (pv 0) (fun _ => rfl))) (pss_one (ps_ret (pe_lst (pa_cons pe_str pa_nil)))) pss_nil)
      (pss_cons (ps_set (i := 1) scCT.nd rfl (Or.inl rfl) (pe_lst pa_nil))
      (pss_cons (ps_for PassesOwn.never rfl (pi_tup (pv 0)) (pg_name (i := 2) scCT.nd rfl (Or.inl rfl))
        (pss_one (ps_set (i := 1) scCT.nd rfl (Or.inl rfl) (pe_op op_cat (pe_op op_cat (pv 1) (pe_lst (pa_cons pe_str pa_nil))) (pe_cx (E := fun _ => E0) GO hr (Nat.le_refl _) (by rfl) at0 (pa_cons (pv 2) pa_nil))))))
      (pss_one (ps_ret (pe_op op_cat (pe_op op_cat (pe_lst (pa_cons pe_str pa_nil)) (pe_slice sl_list (pv 1) (po_some pe_int) po_none)) (pe_lst (pa_cons pe_str pa_nil))))))), ?_⟩
    unfold AlP at al
    obtain ⟨hlen, hao⟩ := al
    cases hos0 : os with
    | nil =>
      subst hos0
      unfold OfsAt at hof
      subst hof
      refine q_when (b := true) (et_not (a := false) (et_truT (ev_var rfl) ht)) (fun _ H1 e1 => ?_) (fun hb => nomatch hb)
      refine s_retL (xs := [V.str "stop"]) (el_lst (ea_cons ev_c ea_nil) (by show 1 ≤ 100000; decide)) (fun p H2 hp e2 h2 => q p H2 (fresh_back e1 hp) (e1.trans e2) ?_)
      rw [tkP]
      exact h2
    | cons c0 s0 m0 op0 ns0 r0 os0 =>
      have hpos : 0 < os.len := by rw [hos0]; exact Nat.succ_pos _
      have hxs : xs.isEmpty = false := by
        rw [hos0] at hof
        unfold OfsAt at hof
        obtain ⟨o, u, b, qs, rfl, _⟩ := hof
        rfl
      have htk : 1 ≤ (tkOs os).length := by
        rw [hos0, tkOs]
        simp only [List.length_append, List.length_cons, List.length_nil]
        omega
      clear hos0
      rw [tkP_ch hpos] at q
      have tl := tkOs_len os hao
      have hl6 : (os.len : Int) ≤ 6 := by omega
      refine q_when (b := false) (et_not (a := true) (by have g := et_truT (K := K) (σ := [some (.ref t), none, none]) (ta := tVar 0) (H := H) (ev_var rfl) ht; rw [hxs] at g; exact g)) (fun hb => nomatch hb) (fun _ H1 e1 => ?_)
      refine q_asgL (xs := []) (el_lst ea_nil (by show 0 ≤ 100000; decide)) (fun l0 H2 hl0 e2 h2 => ?_)
      have x2 := e1.trans e2
      refine q_forT (a := t) (xs := xs) (ev_var rfl) (st_of (x2 _ _ ht)) (fun i σ' H' => ∃ (l : Addr) (pre post : Ofs) (v2 : Option V), σ' = [some (.ref t), some (.ref l), v2] ∧ os = pre.app post ∧ OfsAt C H' (xs.drop i) post ∧ H' l = some (.lst ((tkOs pre).map V.str)) ∧ Ex H H')
        (fun H3 e3 => ⟨l0, .nil, os, _, rfl, rfl, hof.ex (x2.trans e3), by rw [tkOs]; exact e3 _ _ h2, x2.trans e3⟩) (fun i σ' H' _ ⟨_, _, _, _, _, _, _, _, he⟩ => st_of (he _ _ ht)) (fun i x σ' H' hx ⟨l, pre, post, v2, hσ, hos, hof, hl, he⟩ => ?_) (fun σ' H' ⟨l, pre, post, v2, hσ, hos, hof, hl, he⟩ => ?_)
      · subst hσ
        have hd0 : (xs.drop i)[0]? = some x := by rw [List.getElem?_drop, Nat.add_zero]; exact hx
        cases post with
        | nil =>
          unfold OfsAt at hof
          rw [hof] at hd0
          cases hd0
        | cons ch s m op ns r post =>
          unfold OfsAt at hof
          obtain ⟨o, u, b2, qs, hdr, ho, hu, htr, hof⟩ := hof
          rw [hdr] at hd0
          obtain rfl : x = .ref o := (Option.some.inj hd0).symm
          have hdr1 : xs.drop (i + 1) = qs := by rw [← List.drop_drop, hdr]; rfl
          rw [hos] at hao
          obtain ⟨ap, aq⟩ := AlO.app hao
          unfold AlO at aq
          obtain ⟨ofk, alr, alq⟩ := aq
          have eD : os.depth = max pre.depth (max r.depth post.depth) := by rw [hos, Ofs.app_depth, Ofs.depth]
          have eS : os.sum = pre.sum + (r.size + post.sum) := by rw [hos, Ofs.app_sum, Ofs.sum]
          have eL : os.len = pre.len + (post.len + 1) := by rw [hos, Ofs.app_len]; rfl
          have p1 := Ofs.sum_nn pre
          have p2 := Ofs.sum_nn post
          have p3 := Pr.size_pos r
          have t1 := tkOs_len pre ap
          have t2 := tkP_len r alr
          have t3 := ns_len ofk
          have t4 : (tkO ch s m op ns r).length = ns.length + 10 + (tkP r).length := by
            show (tkH ch s m op ns ++ tkP r).length = _
            rw [List.length_append, tkH_len]
          refine s_asgL (xs := ((tkOs pre ++ (["+"] : List Str)) ++ tkO ch s m op ns r).map V.str) (el_catS (xs := tkOs pre ++ (["+"] : List Str)) (ys := tkO ch s m op ns r) (el_is (el_catV (ev_var rfl) hl (el_lst (vs := [V.str "+"]) (ea_cons ev_c ea_nil) (by show 1 ≤ 100000; decide)) (by rw [List.length_map, sizeLine_eq]; show _ + 1 ≤ _; omega)) (mapS (ys := (["+"] : List Str))))
            (el_ot (C := C) (d := d) (ea_cons (ev_var rfl) ea_nil) ho hu htr ofk alr (by omega) (by omega)) (by rw [List.length_append, t4]; show _ + 1 + _ ≤ _; omega)) (fun l' H3 hl' e3 h3 => ?_)
          refine ⟨l', pre.app (.cons ch s m op ns r .nil), post, _, rfl, by rw [Ofs.app_assoc]; exact hos, by rw [hdr1]; exact hof.ex e3, ?_, he.trans e3⟩
          rw [tkOs_app, tkOs_one, ← List.append_assoc]
          exact h3
      · subst hσ
        rw [List.drop_length] at hof
        cases post with
        | nil =>
          rw [Ofs.app_nil] at hos
          subst hos
          refine s_retL (el_catS (xs := (["["] : List Str) ++ (tkOs os).drop 1) (ys := (["]"] : List Str)) (el_catS (xs := (["["] : List Str)) (ys := (tkOs os).drop 1) (el_lst (ea_cons ev_c ea_nil) (by show 1 ≤ 100000; decide)) (el_is (el_sl (ev_var rfl) (eo_some ev_c) eo_none (sq_of hl)) (cut1S htk)) ?_) (el_lst (ea_cons ev_c ea_nil) (by show 1 ≤ 100000; decide)) ?_) (fun p H3 hp e3 h3 => q p H3 (fresh_back he hp) (he.trans e3) h3)
          · rw [List.length_drop]
            show 1 + _ ≤ _
            omega
          · rw [List.length_append, List.length_drop]
            show 1 + _ + 1 ≤ _
            omega
        | cons ch s m op ns r post =>
          unfold OfsAt at hof
          obtain ⟨o, u, b2, qs, hdr, _⟩ := hof
          cases hdr
end
end Fs

set_option Elab.async false
set_option linter.all false
set_option maxRecDepth 100000
set_option maxHeartbeats 8000000
namespace Fs
open PySem L2 Evl FsE FsC FsR FsT FsK
section
variable {σ : L2.St} {H : Hp} {ta tb te : TE} {tas : TA} {K : PySem.W.Frag} {C : Addr} {E : L2.St → XK}
theorem el_ct {d : Nat} {t : Addr} {xs : List V} {os : Ofs} (h : EvA tas σ H [.ref t]) (ht : H t = some (.tup xs)) (hof : OfsAt C H xs os) (al : AlP (.choice os)) (hd : os.depth ≤ (d : Int)) (hs : os.sum ≤ 400) : EvL (tCallS (spCT C d) E tas) σ H ((tkP (.choice os)).map V.str) :=
  el_cx h fun H1 e1 Q q E => ⟨t, xs, os, rfl, e1 _ _ ht, hof.ex e1, al, hd, hs, q⟩
end
section
variable {P : Program} {w : World} {K : PySem.W.Frag} {mg : Str → Option Value} {base : Heap} {C CB : Addr}
abbrev nsPT : List Str := ["process", "name", "seats", "rest", "left", "right", "yes", "no", "test", "operands"]
theorem scPT : FnScope nsPT ["process"] (defScope (topS 33)) := ⟨rfl, rfl, rfl, by decide +kernel, rfl, by decide +kernel, by decide +kernel⟩
theorem ok_pt {f fo fc : Addr} {fd fdo fdc : FuncData} (F : Fun K "process_tokens" "process_tokens" (topS 33) f fd) (Fo : Fun K "offer_tokens" "offer_tokens" (topS 35) fo fdo) (Fc : Fun K "choice_tokens" "choice_tokens" (topS 34) fc fdc) (T : TerT K mg C CB) (hstr : mg "str" = none) (GB : CalX P w K mg base CX0 1 "bracketed" spBr)
    (hm : mg "process_tokens" = some (.ref f)) (kp : PySem.W.keepIn K (.ref f) = true) (bd : Binds K fd ["process"] []) (hmo : mg "offer_tokens" = some (.ref fo)) (kpo : PySem.W.keepIn K (.ref fo) = true) (bdo : Binds K fdo ["offer"] []) (hmc : mg "choice_tokens" = some (.ref fc)) (kpc : PySem.W.keepIn K (.ref fc) = true) (bdc : Binds K fdc ["offers"] []) :
    ∀ d : Nat, FnOk P w K mg base CX0 (1 + 3 * d) f fd ["process"] (spPT C d)
  | 0 => by
    refine F.ok scPT (fun vs H Q E h => ?_) (fun cdv A outer s H vs Q E hr h => ?_)
    · obtain ⟨a, p, rfl, _⟩ := h
      rfl
    · obtain ⟨a, p, rfl, _, _, hd, _⟩ := h
      have := Pr.depth_pos p
      exact absurd hd (by omega)
  | d + 1 => by
    have ih := ok_pt F Fo Fc T hstr GB hm kp bd hmo kpo bdo hmc kpc bdc d
    have GP : CalX P w K mg base CX0 (1 + 3 * d) "process_tokens" (spPT C d) := ⟨f, fd, _, ih, hm, kp, bd⟩
    have GO : CalX P w K mg base CX0 (1 + 3 * d + 1) "offer_tokens" (spOT C d) := ⟨fo, fdo, _, ok_ot Fo hstr GB GP (by omega), hmo, kpo, bdo⟩
    have GT : CalX P w K mg base CX0 (1 + 3 * d + 1 + 1) "choice_tokens" (spCT C d) := ⟨fc, fdc, _, ok_ct Fc GO, hmc, kpc, bdc⟩
    refine F.ok (k := 1 + 3 * d + 1 + 1) scPT (fun vs H Q E h => ?_) (fun cdv A outer s H vs Q E hr h => ?_)
    · obtain ⟨a, p, rfl, _⟩ := h
      rfl
    · obtain ⟨a, p, rfl, hp, al, hd, hs, q⟩ := h
      refine ⟨_, pss_cons (ps_if (pt_cmpR op_eq (pe_fld (pv 0) rfl) pe_str (nomark _)) (pss_one (ps_ret (pe_cx (E := fun _ => E0) GT hr (Nat.le_refl _) (by rfl) at0 (pa_cons (pe_fld (pv 0) rfl) pa_nil)))) pss_nil)
        (pss_cons (ps_if (pt_cmpR op_eq (pe_fld (pv 0) rfl) pe_str (nomark _))
          (pss_cons (ps_asg (pe_fld (pv 0) rfl) (pg_tup rfl (pgs_cons (pg_name (i := 1) scPT.nd rfl (.inl rfl)) (pgs_cons (pg_name (i := 2) scPT.nd rfl (.inl rfl)) (pgs_cons (pg_name (i := 3) scPT.nd rfl (.inl rfl)) pgs_nil)))))
          (pss_one (ps_ret (pe_op op_cat (pe_lst (pa_cons pe_str (pa_cons (pv 1) (pa_cons (pe_callTy call_strX (by rfl) hstr (by decide +kernel) (pa_cons (pv 2) pa_nil)) pa_nil)))) (pe_cx (E := fun _ => E0) GP hr (by omega) (by rfl) at0 (pa_cons (pv 3) pa_nil)))))) pss_nil)
        (pss_cons (ps_if (pt_cmpR op_eq (pe_fld (pv 0) rfl) pe_str (nomark _))
          (pss_cons (ps_asg (pe_fld (pv 0) rfl) (pg_tup rfl (pgs_cons (pg_name (i := 4) scPT.nd rfl (.inl rfl)) (pgs_cons (pg_name (i := 5) scPT.nd rfl (.inl rfl)) (pgs_cons (pg_name (i := 6) scPT.nd rfl (.inl rfl)) (pgs_cons (pg_name (i := 7) scPT.nd rfl (.inl rfl)) pgs_nil))))))
          (pss_cons (ps_set (i := 8) scPT.nd rfl (Or.inl rfl) (pe_lst (pa_cons pe_str (pa_cons (pe_callTy call_strX (by rfl) hstr (by decide +kernel) (pa_cons (pv 4) pa_nil)) (pa_cons pe_str (pa_cons (pe_callTy call_strX (by rfl) hstr (by decide +kernel) (pa_cons (pv 5) pa_nil)) (pa_cons pe_str pa_nil)))))))
          (pss_one (ps_ret (pe_op op_cat (pe_op op_cat (pe_op op_cat (pv 8) (pe_cx (E := fun _ => E0) GP hr (by omega) (by rfl) at0 (pa_cons (pv 6) pa_nil))) (pe_lst (pa_cons pe_str pa_nil))) (pe_cx (E := fun _ => E0) GP hr (by omega) (by rfl) at0 (pa_cons (pv 7) pa_nil))))))) pss_nil)
        (pss_cons (ps_asg (pe_fld (pv 0) rfl) (pg_tup rfl (pgs_cons (pg_name (i := 1) scPT.nd rfl (.inl rfl)) (pgs_cons (pg_name (i := 9) scPT.nd rfl (.inl rfl)) pgs_nil))))
        (pss_one (ps_ret (pe_op op_cat (pe_lst (pa_cons (pv 1) pa_nil)) (pe_cx (E := fun _ => E0) GB hr (by omega) (by rfl) at0 (pa_cons (pv 9) pa_nil)))))))), ?_⟩
      cases p with
      | choice os =>
        unfold PrAt at hp
        obtain ⟨t, xs, ⟨dx, h1⟩, h2, h3⟩ := hp
        obtain ⟨nd, nz⟩ := ch_num os
        rw [nd] at hd
        rw [nz] at hs
        refine q_when (b := true) (et_is (et_test (ev_op (ev_fld (ev_var rfl) h1 T.cl T.nK pf_kind) ev_c (rv_eq rfl))) kC_C) (fun _ H1 e1 => ?_) (fun hb => nomatch hb)
        exact s_retL (el_ct (C := C) (d := d) (ea_cons (ev_fld (ev_var rfl) (e1 _ _ h1) T.cl T.nP pf_parts) ea_nil) (e1 _ _ h2) (h3.ex e1) al (by omega) (by omega)) (fun p H2 hp e2 h2' => q p H2 (fresh_back e1 hp) (e1.trans e2) h2')
      | new n kk r =>
        unfold PrAt at hp
        obtain ⟨t, b, ⟨dx, h1⟩, h2, h3⟩ := hp
        have al0 := al
        unfold AlP at al
        obtain ⟨hn, k1, k4, alr⟩ := al
        have eD : (Pr.new n kk r).depth = 1 + r.depth := by rw [Pr.depth]
        have eS : (Pr.new n kk r).size = 1 + r.size := by rw [Pr.size]
        have tl := tkP_len r alr
        refine q_when (b := false) (et_is (et_test (ev_op (ev_fld (ev_var rfl) h1 T.cl T.nK pf_kind) ev_c (rv_eq rfl))) kN_C) (fun hb => nomatch hb) (fun _ H1 e1 => ?_)
        refine q_when (b := true) (et_is (et_test (ev_op (ev_fld (ev_var rfl) (e1 _ _ h1) T.cl T.nK pf_kind) ev_c (rv_eq rfl))) kN_N) (fun _ H2 e2 => ?_) (fun hb => nomatch hb)
        have x2 := e1.trans e2
        refine q_unp3 (ev_fld (ev_var rfl) (x2 _ _ h1) T.cl T.nP pf_parts) (x2 _ _ h2) [some (.ref a), some (.str n), some (.int kk), some (.ref b), none, none, none, none, none, none] rfl (fun H3 e3 => ?_)
        have x3 := x2.trans e3
        rw [tkP] at q
        exact s_retL (el_catS (xs := (["new", n, iS kk] : List Str)) (ys := tkP r) (el_lst (ea_cons ev_c (ea_cons (ev_var rfl) (ea_cons (ev_cb (ea_cons (ev_var rfl) ea_nil) (rc_strI (iOk (by omega) (by omega)))) ea_nil))) (by show 3 ≤ 100000; decide)) (el_pt (C := C) (d := d) (ea_cons (ev_var rfl) ea_nil) (h3.ex x3) alr (by omega) (by omega)) (by show 3 + _ ≤ _; omega)) (fun p H4 hp e4 h4 => q p H4 (fresh_back x3 hp) (x3.trans e4) h4)
      | cond lo ro y n =>
        unfold PrAt at hp
        obtain ⟨t, b, b', ⟨dx, h1⟩, h2, h3, h3'⟩ := hp
        unfold AlP at al
        obtain ⟨hl, hr', aly, aln⟩ := al
        have eD : (Pr.cond lo ro y n).depth = 1 + max y.depth n.depth := by rw [Pr.depth]
        have eS : (Pr.cond lo ro y n).size = 1 + (y.size + n.size) := by rw [Pr.size]
        have p1 := Pr.size_pos y
        have p2 := Pr.size_pos n
        have tl := tkP_len y aly
        have tl2 := tkP_len n aln
        refine q_when (b := false) (et_is (et_test (ev_op (ev_fld (ev_var rfl) h1 T.cl T.nK pf_kind) ev_c (rv_eq rfl))) kI_C) (fun hb => nomatch hb) (fun _ H1 e1 => ?_)
        refine q_when (b := false) (et_is (et_test (ev_op (ev_fld (ev_var rfl) (e1 _ _ h1) T.cl T.nK pf_kind) ev_c (rv_eq rfl))) kI_N) (fun hb => nomatch hb) (fun _ H2 e2 => ?_)
        have x2 := e1.trans e2
        refine q_when (b := true) (et_is (et_test (ev_op (ev_fld (ev_var rfl) (x2 _ _ h1) T.cl T.nK pf_kind) ev_c (rv_eq rfl))) kI_I) (fun _ H3 e3 => ?_) (fun hb => nomatch hb)
        have x3 := x2.trans e3
        refine q_unp4 (ev_fld (ev_var rfl) (x3 _ _ h1) T.cl T.nP pf_parts) (x3 _ _ h2) [some (.ref a), none, none, none, some lo.v, some ro.v, some (.ref b), some (.ref b'), none, none] rfl (fun H4 e4 => ?_)
        have x4 := x3.trans e4
        rw [tkP] at q
        refine q_asgL (xs := (["if", opS lo, "=", opS ro, "then"] : List Str).map V.str) (el_lst (ea_cons ev_c (ea_cons (ev_cb (ea_cons (ev_var rfl) ea_nil) (rc_strO hl)) (ea_cons ev_c (ea_cons (ev_cb (ea_cons (ev_var rfl) ea_nil) (rc_strO hr')) (ea_cons ev_c ea_nil))))) (by show 5 ≤ 100000; decide)) (fun l H5 hl5 e5 h5 => ?_)
        have x5 := x4.trans e5
        refine s_retL (el_catS (xs := (["if", opS lo, "=", opS ro, "then"] : List Str) ++ tkP y ++ (["else"] : List Str)) (ys := tkP n) (el_catS (xs := (["if", opS lo, "=", opS ro, "then"] : List Str) ++ tkP y) (ys := (["else"] : List Str))
          (el_is (el_catV (xs := (["if", opS lo, "=", opS ro, "then"] : List Str).map V.str) (ev_var rfl) h5 (el_pt (C := C) (d := d) (ea_cons (ev_var rfl) ea_nil) (h3.ex x5) aly (by omega) (by omega)) (by rw [sizeLine_eq, List.length_map, List.length_map]; show 5 + _ ≤ _; omega)) mapS) (el_lst (ea_cons ev_c ea_nil) (by show 1 ≤ 100000; decide)) ?_)
          (el_pt (C := C) (d := d) (ea_cons (ev_var rfl) ea_nil) (h3'.ex x5) aln (by omega) (by omega)) ?_) (fun p H6 hp e6 h6 => q p H6 (fresh_back x5 hp) (x5.trans e6) h6)
        · rw [List.length_append]
          show 5 + _ + 1 ≤ _
          omega
        · rw [List.length_append, List.length_append]
          show 5 + _ + 1 + _ ≤ _
          omega
      | call n ops =>
        unfold PrAt at hp
        obtain ⟨t, u, ⟨dx, h1⟩, h2, h3⟩ := hp
        unfold AlP at al
        obtain ⟨hn, hol, hoo⟩ := al
        refine q_when (b := false) (et_is (et_test (ev_op (ev_fld (ev_var rfl) h1 T.cl T.nK pf_kind) ev_c (rv_eq rfl))) kL_C) (fun hb => nomatch hb) (fun _ H1 e1 => ?_)
        refine q_when (b := false) (et_is (et_test (ev_op (ev_fld (ev_var rfl) (e1 _ _ h1) T.cl T.nK pf_kind) ev_c (rv_eq rfl))) kL_N) (fun hb => nomatch hb) (fun _ H2 e2 => ?_)
        have x2 := e1.trans e2
        refine q_when (b := false) (et_is (et_test (ev_op (ev_fld (ev_var rfl) (x2 _ _ h1) T.cl T.nK pf_kind) ev_c (rv_eq rfl))) kL_I) (fun hb => nomatch hb) (fun _ H3 e3 => ?_)
        have x3 := x2.trans e3
        refine q_unp2 (ev_fld (ev_var rfl) (x3 _ _ h1) T.cl T.nP pf_parts) (x3 _ _ h2) [some (.ref a), some (.str n), none, none, none, none, none, none, none, some (.ref u)] rfl (fun H4 e4 => ?_)
        have x4 := x3.trans e4
        rw [tkP] at q
        exact s_retL (el_catS (xs := [n]) (ys := tkB (ops.map opS)) (el_lst (ea_cons (ev_var rfl) ea_nil) (by show 1 ≤ 100000; decide)) (el_br (ea_cons (ev_var rfl) ea_nil) (x4 _ _ h3) (by omega) hoo) (by rw [tkB_len, List.length_map]; show 1 + _ ≤ _; omega)) (fun p H5 hp e5 h5 => q p H5 (fresh_back x4 hp) (x4.trans e5) h5)
end
end Fs

set_option Elab.async false
set_option linter.all false
set_option maxRecDepth 100000
set_option maxHeartbeats 8000000
namespace Fs
open PySem L2 Evl FsE FsC FsR FsT FsK
abbrev spS : Str := " "
/-- the written form -/
def txP (p : Pr) : Str := Str.join spS (tkP p)
theorem join2 (s x : Str) : ∀ ys : List Str, ys ≠ [] → Str.join s (x :: ys) = x ++ (s ++ Str.join s ys)
  | [], h => absurd rfl h
  | y :: r, _ => by
    show x ++ s ++ Str.join s (y :: r) = _
    rw [Str.append_assoc]
theorem join_app (s : Str) : ∀ xs ys : List Str, xs ≠ [] → ys ≠ [] → Str.join s (xs ++ ys) = Str.join s xs ++ (s ++ Str.join s ys)
  | [], _, h, _ => absurd rfl h
  | [x], ys, _, h => join2 s x ys h
  | x :: x' :: xs, ys, _, h => by
    have ih := join_app s (x' :: xs) ys (by simp) h
    show Str.join s (x :: (x' :: xs ++ ys)) = _
    rw [join2 s x _ (by simp), ih, join2 s x (x' :: xs) (by simp)]
    simp only [Str.append_assoc]
theorem tkP_ne : ∀ p : Pr, tkP p ≠ []
  | .choice .nil => by rw [tkP]; simp
  | .choice (.cons c s m op ns r os) => by rw [tkP]; simp
  | .new n k r => by rw [tkP]; simp
  | .cond l r y n => by rw [tkP]; simp
  | .call n ops => by rw [tkP]; simp
theorem tx_stop : txP (.choice .nil) = "stop" := by
  unfold txP
  rw [tkP]
  rfl
theorem tx_new {n : Str} {k : Int} {r : Pr} : txP (.new n k r) = ((((("new " : Str) ++ n) ++ (" " : Str)) ++ iS k) ++ (" " : Str)) ++ txP r := by
  unfold txP
  rw [tkP, show (["new", n, iS k] : List Str) ++ tkP r = ("new" : Str) :: n :: iS k :: tkP r from rfl, join2 _ _ _ (by simp), join2 _ _ _ (by simp), join2 _ _ _ (tkP_ne r), show ("new " : Str) = ("new" : Str) ++ spS from by decide +kernel]
  simp only [Str.append_assoc]
theorem tx_cond {l r : Opd} {y n : Pr} : txP (.cond l r y n) = (((((("if " : Str) ++ opS l) ++ (" = " : Str)) ++ opS r) ++ (" then " : Str)) ++ ((txP y ++ (" else " : Str)) ++ txP n)) := by
  unfold txP
  rw [tkP, show (["if", opS l, "=", opS r, "then"] : List Str) ++ tkP y ++ (["else"] : List Str) ++ tkP n = ("if" : Str) :: opS l :: ("=" : Str) :: opS r :: ("then" : Str) :: (tkP y ++ (("else" : Str) :: tkP n)) from by simp, join2 _ _ _ (by simp), join2 _ _ _ (by simp), join2 _ _ _ (by simp), join2 _ _ _ (by simp), join2 _ _ _ (by simp [tkP_ne]),
    join_app _ _ _ (tkP_ne y) (by simp), join2 _ _ _ (tkP_ne n), show ("if " : Str) = ("if" : Str) ++ spS from by decide +kernel, show (" = " : Str) = spS ++ (("=" : Str) ++ spS) from by decide +kernel, show (" then " : Str) = spS ++ (("then" : Str) ++ spS) from by decide +kernel, show (" else " : Str) = spS ++ (("else" : Str) ++ spS) from by decide +kernel]
  simp only [Str.append_assoc]
/-- an offer's tokens ahead of its rest, as the law writes them -/
theorem tkH_eq {c : Str} {s m : Int} {op : Opd} {ns : List Str} : tkH c s m op ns = (([c, iS s, "/", iS m, "put", opS op, "get", "("] : List Str) ++ ns) ++ ([")", "then"] : List Str) := by
  unfold tkH tkB
  simp
def txH (c : Str) (s m : Int) (op : Opd) (ns : List Str) (r : Pr) : Str := (Str.join spS (tkH c s m op ns) ++ (" " : Str)) ++ txP r
def txO : Ofs → List Str
  | .nil => []
  | .cons c s m op ns r os => txH c s m op ns r :: txO os
theorem tkH_ne {c : Str} {s m : Int} {op : Opd} {ns : List Str} : tkH c s m op ns ≠ [] := by
  unfold tkH
  simp
theorem tkO_ne {c : Str} {s m : Int} {op : Opd} {ns : List Str} {r : Pr} : tkO c s m op ns r ≠ [] := by
  unfold tkO
  simp [tkP_ne]
theorem tx_o {c : Str} {s m : Int} {op : Opd} {ns : List Str} {r : Pr} : Str.join spS (tkO c s m op ns r) = txH c s m op ns r := by
  unfold tkO txH
  rw [join_app _ _ _ tkH_ne (tkP_ne r), Str.append_assoc]
  rfl
theorem plus_app (z : Str) : (" + " : Str) ++ z = spS ++ (("+" : Str) ++ (spS ++ z)) := by
  rw [show (" + " : Str) = spS ++ (("+" : Str) ++ spS) from by decide +kernel]
  simp only [Str.append_assoc]
theorem tx_os : ∀ (os : Ofs) (xs : List Str), xs ≠ [] → Str.join spS (xs ++ tkOs os) = Str.join (" + " : Str) (Str.join spS xs :: txO os)
  | .nil, xs, h => by
    rw [tkOs, List.append_nil]
    rfl
  | .cons c s m op ns r os, xs, h => by
    rw [tkOs, show (["+"] : List Str) ++ (tkH c s m op ns ++ tkP r) ++ tkOs os = ("+" : Str) :: (tkO c s m op ns r ++ tkOs os) from rfl, join_app _ _ _ h (by simp), join2 _ _ _ (by simp [tkO_ne]), tx_os os (tkO c s m op ns r) tkO_ne, tx_o]
    show _ = Str.join (" + " : Str) (Str.join spS xs :: (txH c s m op ns r :: txO os))
    rw [join2 (" + " : Str) (Str.join spS xs) (txH c s m op ns r :: txO os) (by simp), plus_app]
theorem tx_choice {os : Ofs} (h : 0 < os.len) : txP (.choice os) = (("[ " : Str) ++ Str.join (" + " : Str) (txO os)) ++ (" ]" : Str) := by
  cases os with
  | nil => exact absurd h (by decide)
  | cons c s m op ns r os =>
    unfold txP
    rw [tkP, show (["["] : List Str) ++ ((tkH c s m op ns ++ tkP r) ++ tkOs os) ++ (["]"] : List Str) = ("[" : Str) :: ((tkO c s m op ns r ++ tkOs os) ++ (["]"] : List Str)) from by simp [tkO], join2 _ _ _ (by simp), join_app _ _ _ (by simp [tkO_ne]) (by simp), tx_os os _ tkO_ne, tx_o,
      show ("[ " : Str) = ("[" : Str) ++ spS from by decide +kernel, show (" ]" : Str) = spS ++ ("]" : Str) from by decide +kernel]
    simp only [Str.append_assoc]
    rfl
/-! lengths -/
theorem join_le (s : Str) : ∀ ts : List Str, (Str.join s ts).length ≤ (ts.map (·.length)).sum + ts.length * s.length
  | [] => Nat.zero_le _
  | [x] => by
    show x.length ≤ (x.length + 0) + 1 * s.length
    omega
  | x :: y :: r => by
    have ih := join_le s (y :: r)
    rw [join2 s x (y :: r) (by simp), Str.length_append, Str.length_append]
    rw [List.map_cons, List.sum_cons, List.length_cons, Nat.add_mul, Nat.one_mul]
    omega
theorem sum_le_mul {n : Nat} : ∀ ts : List Str, (∀ t ∈ ts, t.length ≤ n) → (ts.map (·.length)).sum ≤ n * ts.length
  | [], _ => Nat.zero_le _
  | x :: r, h => by
    have ih := sum_le_mul r (fun t ht => h t (List.mem_cons_of_mem _ ht))
    have hx := h x (List.mem_cons_self ..)
    rw [List.map_cons, List.sum_cons, List.length_cons, Nat.mul_add, Nat.mul_one]
    omega
def ShT (xs : List Str) : Prop := ∀ t ∈ xs, t.length ≤ 31
theorem ShT.app {xs ys : List Str} (h1 : ShT xs) (h2 : ShT ys) : ShT (xs ++ ys) := fun t ht => by
  rcases List.mem_append.mp ht with h | h
  · exact h1 t h
  · exact h2 t h
theorem ShT.nil : ShT [] := fun t ht => by simp at ht
theorem ShT.cons {x : Str} {xs : List Str} (h1 : x.length ≤ 31) (h2 : ShT xs) : ShT (x :: xs) := fun t ht => by
  rcases List.mem_cons.mp ht with h | h
  · rw [h]
    exact h1
  · exact h2 t h
theorem sh_ops {ops : List Opd} (h : ∀ o ∈ ops, OpdOk o) : ShT (ops.map opS) := fun t ht => by
  obtain ⟨o, ho, rfl⟩ := List.mem_map.mp ht
  exact opS_len (h o ho)
theorem sh_lit (z : Str) (h : z.length ≤ 31) : ShT [z] := .cons h .nil
theorem sh_B {xs : List Str} (h : ShT xs) : ShT (tkB xs) := by
  unfold tkB
  exact (ShT.app (ShT.app (sh_lit _ (by decide)) h) (sh_lit _ (by decide)))
theorem sh_H {c : Str} {s m : Int} {op : Opd} {ns : List Str} (h : OfOk c s m op ns) : ShT (tkH c s m op ns) := by
  have h1 := h.ch.len
  have m1 := h.m1
  have m4 := h.m4
  have s0 := h.s0
  have s1 := h.s1
  unfold tkH
  refine ShT.app (ShT.app (ShT.app (.cons (by omega) (.cons (int_len (iOk s0 (by omega))) (.cons (by decide) (.cons (int_len (iOk (by omega) (by omega))) (.cons (by decide) (.cons (opS_len h.op) .nil)))))) (sh_lit _ (by decide))) (sh_B fun y hy => ?_)) (sh_lit _ (by decide))
  have := (h.nz y hy).1
  omega
mutual
theorem sh_P : ∀ p : Pr, AlP p → ShT (tkP p)
  | .choice .nil, _ => by
    rw [tkP]
    exact sh_lit _ (by decide)
  | .choice (.cons c s m op ns r os), h => by
    unfold AlP AlO at h
    obtain ⟨_, h1, h2, h3⟩ := h
    rw [tkP]
    exact ShT.app (ShT.app (sh_lit _ (by decide)) (ShT.app (ShT.app (sh_H h1) (sh_P r h2)) (sh_Os os h3))) (sh_lit _ (by decide))
  | .new n k r, h => by
    unfold AlP at h
    have hn := h.1.len
    rw [tkP]
    exact ShT.app (.cons (by decide) (.cons (by omega) (.cons (int_len (iOk (by have := h.2.1; omega) (by have := h.2.2.1; omega))) .nil))) (sh_P r h.2.2.2)
  | .cond l r y n, h => by
    unfold AlP at h
    rw [tkP]
    exact ShT.app (ShT.app (ShT.app (.cons (by decide) (.cons (opS_len h.1) (.cons (by decide) (.cons (opS_len h.2.1) (.cons (by decide) .nil))))) (sh_P y h.2.2.1)) (sh_lit _ (by decide))) (sh_P n h.2.2.2)
  | .call n ops, h => by
    unfold AlP at h
    have hn := h.1.len
    rw [tkP]
    exact ShT.app (sh_lit _ (by omega)) (sh_B (sh_ops h.2.2))
theorem sh_Os : ∀ os : Ofs, AlO os → ShT (tkOs os)
  | .nil, _ => by
    rw [tkOs]
    exact .nil
  | .cons c s m op ns r os, h => by
    unfold AlO at h
    obtain ⟨h1, h2, h3⟩ := h
    rw [tkOs]
    exact ShT.app (ShT.app (sh_lit _ (by decide)) (ShT.app (sh_H h1) (sh_P r h2))) (sh_Os os h3)
end
theorem join_sh {xs : List Str} (h : ShT xs) : (Str.join spS xs).length ≤ 32 * xs.length := by
  have h1 := join_le spS xs
  have h2 := sum_le_mul xs h
  have h3 : xs.length * spS.length = xs.length := by rw [show spS.length = 1 from by decide, Nat.mul_one]
  omega
theorem tx_len {p : Pr} (h : AlP p) : ((txP p).length : Int) ≤ 960 * p.size := by
  have h1 := tkP_len p h
  have h2 := join_sh (sh_P p h)
  unfold txP
  omega
abbrev rJ (K : PySem.W.Frag) : V → List V → Hp → VK → Prop := fun x xs H Q => ∃ a p, ∃ ys : List Str, x = .str a ∧ xs = [.ref p] ∧ (SqL K H p (ys.map V.str) ∨ SqT K H p (ys.map V.str)) ∧ (ys.map (·.length)).sum + ys.length * a.length ≤ 16777216 ∧ Q (.str (Txt.join a ys)) H
section
variable {σ : L2.St} {H : Hp} {ta tb te : TE} {tas : TA} {K : PySem.W.Frag} {C : Addr} {E : L2.St → XK}
theorem ev_join {a : Str} {ys : List Str} (h1 : Ev ta σ H (.str a)) (h2 : EvL te σ H (ys.map V.str)) (hz : (ys.map (·.length)).sum + ys.length * a.length ≤ 16777216) : Ev (tM1 (rJ K) ta te) σ H (.str (Str.join a ys)) := fun H1 e1 Q q =>
  h1 H1 e1 _ fun H2 e2 => ⟨⟨a, rfl⟩, h2 H2 (e1.trans e2) _ fun p H3 hp e3 h3 => ⟨a, p, ys, rfl, rfl, .inl (sq_of h3), hz, by rw [TL.join_eq]; exact q H3 (e2.trans e3)⟩⟩
end
def spTX (C : Addr) (d : Nat) : Sp := fun vs H Q _ => ∃ (a : Addr) (p : Pr), vs = [.ref a] ∧ PrAt C H a p ∧ AlP p ∧ p.depth ≤ (d : Int) ∧ p.size ≤ 400 ∧ RetV (.str (txP p)) H Q
section
variable {P : Program} {w : World} {K : PySem.W.Frag} {mg : Str → Option Value} {base : Heap} {C CB : Addr}
theorem scTX : FnScope ["process"] ["process"] (defScope (topS 32)) := ⟨rfl, rfl, rfl, by decide +kernel, rfl, by decide +kernel, by decide +kernel⟩
theorem ok_tx {f : Addr} {fd : FuncData} {k d : Nat} (F : Fun K "process_text" "process_text" (topS 32) f fd) (GP : CalX P w K mg base CX0 k "process_tokens" (spPT C d)) : FnOk P w K mg base CX0 (k + 1) f fd ["process"] (spTX C d) := by
  refine F.ok scTX (fun vs H Q E h => ?_) (fun cdv A outer s H vs Q E hr h => ?_)
  · obtain ⟨a, p, rfl, _⟩ := h
    rfl
  · obtain ⟨a, p, rfl, hp, al, hd, hs, q⟩ := h
    refine ⟨_, pss_one (ps_ret (pe_join pe_str (pe_cx (E := fun _ => E0) GP hr (Nat.le_refl _) (by rfl) at0 (pa_cons (pv 0) pa_nil)))), ?_⟩
    have h1 := tkP_len p al
    have h2 := sum_le_mul _ (sh_P p al)
    exact s_ret (ev_join (ys := tkP p) ev_c (el_pt (C := C) (d := d) (ea_cons (ev_var rfl) ea_nil) hp al hd hs) (by
      rw [show (" " : Str).length = 1 from by decide, Nat.mul_one]
      omega)) (fun H1 e1 => q H1 e1)
end
end Fs

set_option Elab.async false
set_option linter.all false
set_option maxRecDepth 100000
set_option maxHeartbeats 8000000
namespace Fs
open PySem L2 Evl FsE FsC FsR FsT FsK
theorem txO_app : ∀ a b : Ofs, txO (a.app b) = txO a ++ txO b
  | .nil, _ => rfl
  | .cons c s m op ns r os, b => by
    show txH c s m op ns r :: txO (os.app b) = txH c s m op ns r :: txO os ++ txO b
    rw [txO_app os b]
    rfl
theorem tkH_sh {c : Str} {s m : Int} {op : Opd} {ns : List Str} (h : OfOk c s m op ns) : (Str.join spS (tkH c s m op ns)).length ≤ 416 := by
  have h1 := join_sh (sh_H h)
  have h2 := ns_len h
  rw [tkH_len] at h1
  omega
theorem txH_len {c : Str} {s m : Int} {op : Opd} {ns : List Str} {r : Pr} (h : OfOk c s m op ns) (al : AlP r) (hs : r.size ≤ 30) : (txH c s m op ns r).length ≤ 30000 := by
  have h1 := tkH_sh h
  have h2 := tx_len al
  unfold txH
  rw [Str.length_append, Str.length_append, show (" " : Str).length = 1 from by decide]
  omega
theorem txO_sh : ∀ os : Ofs, AlO os → os.sum ≤ 30 → ∀ t ∈ txO os, t.length ≤ 30000
  | .nil, _, _, t, ht => by
    unfold txO at ht
    cases ht
  | .cons c s m op ns r os, h, hs, t, ht => by
    unfold AlO at h
    obtain ⟨h1, h2, h3⟩ := h
    have e4 : (Ofs.cons c s m op ns r os).sum = r.size + os.sum := by rw [Ofs.sum]
    have p1 := Pr.size_pos r
    have p2 := Ofs.sum_nn os
    unfold txO at ht
    rcases List.mem_cons.mp ht with e | e
    · rw [e]
      exact txH_len h1 h2 (by omega)
    · exact txO_sh os h3 (by omega) t e
theorem txO_len : ∀ os : Ofs, (txO os).length = os.len
  | .nil => rfl
  | .cons c s m op ns r os => by
    show (txO os).length + 1 = os.len + 1
    rw [txO_len os]
theorem OfsTr.len {H : Hp} : ∀ {os : Ofs} {ps : List V}, OfsTr H ps os → ps.length = os.len
  | .nil, ps, h => by
    unfold OfsTr at h
    subst h
    rfl
  | .cons c s m op ns r os, ps, h => by
    unfold OfsTr at h
    obtain ⟨o, u, b, qs, rfl, _, _, _, h5⟩ := h
    show qs.length + 1 = os.len + 1
    rw [OfsTr.len h5]
theorem kL_L : decide (V.str ("call" : Str) = V.str "call") = true := by decide +kernel
theorem kC_N : decide (V.str ("choice" : Str) = V.str "new") = false := by decide +kernel
theorem kC_I : decide (V.str ("choice" : Str) = V.str "if") = false := by decide +kernel
theorem kC_L : decide (V.str ("choice" : Str) = V.str "call") = false := by decide +kernel
def spLT (d : Nat) : Sp := fun vs H Q _ => ∃ (a : Addr) (p : Pr), vs = [.ref a] ∧ TrAt H a p ∧ AlP p ∧ p.depth ≤ (d : Int) ∧ p.size ≤ 30 ∧ RetV (.str (txP p)) H Q
section
variable {σ : L2.St} {H : Hp} {ta tb te : TE} {tas : TA} {K : PySem.W.Frag} {C : Addr} {E : L2.St → XK}
theorem ev_lt {d : Nat} {a : Addr} {p : Pr} (h : EvA tas σ H [.ref a]) (ht : TrAt H a p) (al : AlP p) (hd : p.depth ≤ (d : Int)) (hs : p.size ≤ 30) : Ev (tCallS (spLT d) E tas) σ H (.str (txP p)) := ev_cx h fun H1 e1 Q q E => ⟨a, p, rfl, ht.ex e1, al, hd, hs, q⟩
theorem ev_joinV {a : Str} {l : Addr} {ys : List Str} (h1 : Ev ta σ H (.str a)) (h2 : Ev te σ H (.ref l)) (hl : H l = some (.lst (ys.map V.str))) (hz : (ys.map (·.length)).sum + ys.length * a.length ≤ 16777216) : Ev (tM1 (rJ K) ta te) σ H (.str (Str.join a ys)) := fun H1 e1 Q q =>
  h1 H1 e1 _ fun H2 e2 => ⟨⟨a, rfl⟩, h2 H2 (e1.trans e2) _ fun H3 e3 => ⟨a, l, ys, rfl, rfl, .inl (sq_of (((e1.trans e2).trans e3) _ _ hl)), hz, by rw [TL.join_eq]; exact q H3 (e2.trans e3)⟩⟩
theorem el_catR {l : Addr} {xs ys : List V} (ha : EvL ta σ H xs) (hb : Ev tb σ H (.ref l)) (hl : H l = some (.lst ys)) (hz : xs.length + ys.length ≤ sizeLine) : EvL (tOp rCat ta tb) σ H (xs ++ ys) := fun H1 e Q q =>
  ha H1 e _ fun p H2 hp e2 h2 => hb H2 (e.trans e2) _ fun H3 e3 => ⟨p, l, xs, ys, rfl, rfl, e3 _ _ h2, e3 _ _ (e2 _ _ (e _ _ hl)), hz, fun r hr => q r _ (fresh_back (e2.trans e3) hr) ((e2.trans e3).trans (Ex.new hr)) upd_same⟩
end
section
variable {P : Program} {w : World} {K : PySem.W.Frag} {mg : Str → Option Value} {base : Heap} {C CB : Addr}
abbrev nsLT : List Str := ["_law_process", "_law_ends", "_law_texts", "_law_channel", "_law_seat", "_law_seats", "_law_operand_here", "_law_names", "_law_rest", "_law_head", "_law_one"]
theorem scLT : FnScope nsLT ["_law_process"] (defScope (topS 46)) := ⟨rfl, rfl, rfl, by decide +kernel, rfl, by decide +kernel, by decide +kernel⟩
theorem ok_lt {f : Addr} {fd : FuncData} (F : Fun K "_law_process_text" "_law_process_text" (topS 46) f fd) (L : LawT K mg) (hstr : mg "str" = none) (hm : mg "_law_process_text" = some (.ref f)) (kp : PySem.W.keepIn K (.ref f) = true) (bd : Binds K fd ["_law_process"] []) : ∀ d : Nat, FnOk P w K mg base CX0 (1 + d) f fd ["_law_process"] (spLT d)
  | 0 => by
    refine F.ok scLT (fun vs H Q E h => ?_) (fun cdv A outer s H vs Q E hr h => ?_)
    · obtain ⟨a, p, rfl, _⟩ := h
      rfl
    · obtain ⟨a, p, rfl, _, _, hd, _⟩ := h
      have := Pr.depth_pos p
      exact absurd hd (by omega)
  | d + 1 => by
    have ih := ok_lt F L hstr hm kp bd d
    have GT : CalX P w K mg base CX0 (1 + d) "_law_process_text" (spLT d) := ⟨f, fd, _, ih, hm, kp, bd⟩
    refine F.ok (k := 1 + d) scLT (fun vs H Q E h => ?_) (fun cdv A outer s H vs Q E hr h => ?_)
    · obtain ⟨a, p, rfl, _⟩ := h
      rfl
    · obtain ⟨a, p, rfl, ht, al, hd, hs, q⟩ := h
      refine ⟨_, pss_cons (ps_if (pt_cmpR op_eq (pe_ix ix_tup (pv 0) pe_int (fun _ _ => rfl)) pe_str (nomark _))
          (pss_one (ps_ret (pe_op op_add_str (pe_op op_add_str (pe_op op_add_str (pe_op op_add_str (pe_op op_add_str pe_str (pe_ix ix_tup (pv 0) pe_int (fun _ _ => rfl))) pe_str) (pe_callTy call_strX (by rfl) hstr (by decide +kernel) (pa_cons (pe_ix ix_tup (pv 0) pe_int (fun _ _ => rfl)) pa_nil))) pe_str) (pe_cx (E := fun _ => E0) GT hr (Nat.le_refl _) (by rfl) at0 (pa_cons (pe_ix ix_tup (pv 0) pe_int (fun _ _ => rfl)) pa_nil))))) pss_nil)
        (pss_cons (ps_if (pt_cmpR op_eq (pe_ix ix_tup (pv 0) pe_int (fun _ _ => rfl)) pe_str (nomark _))
          (pss_cons (ps_set (i := 1) scLT.nd rfl (Or.inl rfl) (pe_op op_add_str (pe_op op_add_str (pe_cx (E := fun _ => E0) GT hr (Nat.le_refl _) (by rfl) at0 (pa_cons (pe_ix ix_tup (pv 0) pe_int (fun _ _ => rfl)) pa_nil)) pe_str) (pe_cx (E := fun _ => E0) GT hr (Nat.le_refl _) (by rfl) at0 (pa_cons (pe_ix ix_tup (pv 0) pe_int (fun _ _ => rfl)) pa_nil))))
          (pss_one (ps_ret (pe_op op_add_str (pe_op op_add_str (pe_op op_add_str (pe_op op_add_str (pe_op op_add_str pe_str (pe_callTy call_strX (by rfl) hstr (by decide +kernel) (pa_cons (pe_ix ix_tup (pv 0) pe_int (fun _ _ => rfl)) pa_nil))) pe_str) (pe_callTy call_strX (by rfl) hstr (by decide +kernel) (pa_cons (pe_ix ix_tup (pv 0) pe_int (fun _ _ => rfl)) pa_nil))) pe_str) (pv 1))))) pss_nil)
        (pss_cons (ps_if (pt_cmpR op_eq (pe_ix ix_tup (pv 0) pe_int (fun _ _ => rfl)) pe_str (nomark _))
          (pss_one (ps_ret (pe_join pe_str (pe_op op_cat (pe_op op_cat (pe_lst (pa_cons (pe_ix ix_tup (pv 0) pe_int (fun _ _ => rfl)) (pa_cons pe_str pa_nil)))
            (pe_lc (own := [("_law_one", 10)]) (g := gName 10) (tt := tYes) (te := tCB rStr (tCons (tVar 10) tNil)) rfl scLT.nd (pi_list (pe_ix ix_tup (pv 0) pe_int (fun _ _ => rfl))) (blkOk_by (own := [("_law_one", 10)]) (N := nsLT) (sc := defScope (topS 46)) (by decide +kernel))
              (fun _ _ _ _ _ => pg_name (i := 10) scLT.nd rfl (Or.inl rfl)) (fun _ _ _ _ _ => pts_nil) (fun _ _ _ _ _ => pe_callTy call_strX (by rfl) hstr (by decide +kernel) (pa_cons (pv 10) pa_nil)))) (pe_lst (pa_cons pe_str pa_nil)))))) pss_nil)
        (pss_cons (ps_if (pt_cmpR op_eq (pe_callB call_len_seq (by rfl) L.len PySem.boot_len (pa_cons (pe_ix ix_tup (pv 0) pe_int (fun _ _ => rfl)) pa_nil)) pe_int (nomark _)) (pss_one (ps_ret pe_str)) pss_nil)
        (pss_cons (ps_set (i := 2) scLT.nd rfl (Or.inl rfl) (pe_lst pa_nil))
        (pss_cons (ps_for PassesOwn.never rfl (pi_list (pe_ix ix_tup (pv 0) pe_int (fun _ _ => rfl))) (pg_tup rfl (pgs_cons (pg_name (i := 3) scLT.nd rfl (.inl rfl)) (pgs_cons (pg_name (i := 4) scLT.nd rfl (.inl rfl)) (pgs_cons (pg_name (i := 5) scLT.nd rfl (.inl rfl)) (pgs_cons (pg_name (i := 6) scLT.nd rfl (.inl rfl)) (pgs_cons (pg_name (i := 7) scLT.nd rfl (.inl rfl)) (pgs_cons (pg_name (i := 8) scLT.nd rfl (.inl rfl)) pgs_nil)))))))
            (pss_cons (ps_set (i := 9) scLT.nd rfl (Or.inl rfl) (pe_op op_cat (pe_op op_cat (pe_lst (pa_cons (pv 3) (pa_cons (pe_callTy call_strX (by rfl) hstr (by decide +kernel) (pa_cons (pv 4) pa_nil)) (pa_cons pe_str (pa_cons (pe_callTy call_strX (by rfl) hstr (by decide +kernel) (pa_cons (pv 5) pa_nil)) (pa_cons pe_str (pa_cons (pe_callTy call_strX (by rfl) hstr (by decide +kernel) (pa_cons (pv 6) pa_nil)) (pa_cons pe_str (pa_cons pe_str pa_nil))))))))) (pv 7)) (pe_lst (pa_cons pe_str (pa_cons pe_str pa_nil)))))
            (pss_one (ps_expr (pe_bm PySem.F.plainAttrs_list PySem.F.slot_list_append PySem.F.type_list_append mt_append (pv 2) (pa_cons (pe_op op_add_str (pe_op op_add_str (pe_join pe_str (pv 9)) pe_str) (pe_cx (E := fun _ => E0) GT hr (Nat.le_refl _) (by rfl) at0 (pa_cons (pv 8) pa_nil))) pa_nil))))))
        (pss_one (ps_ret (pe_op op_add_str (pe_op op_add_str pe_str (pe_join pe_str (pv 2))) pe_str)))))))), ?_⟩
      have ixk : ∀ {xs : List V} {H9 : Hp} {σ9 : L2.St} {i : Int} {v : V}, H9 a = some (.tup xs) → σ9[0]? = some (some (.ref a)) → atI xs i = some v → Ev (tOp (rIxT K) (tVar 0) (tC (.int i))) σ9 H9 v := fun h9 s0 g => ev_op (ev_var s0) ev_c (rv_ixT (st_of h9) g)
      have tl0 := tx_len al
      cases p with
      | new n kk r =>
        unfold TrAt at ht
        obtain ⟨b, h1, h2⟩ := ht
        unfold AlP at al
        obtain ⟨hn, k1, k4, alr⟩ := al
        have eD : (Pr.new n kk r).depth = 1 + r.depth := by rw [Pr.depth]
        have eS : (Pr.new n kk r).size = 1 + r.size := by rw [Pr.size]
        have hnl := hn.len
        have il : (iS kk).length ≤ 31 := int_len (i := kk) (iOk (by omega) (by omega))
        have tl := tx_len alr
        rw [tx_new] at q
        refine q_when (b := true) (et_is (et_test (ev_op (ixk h1 rfl rfl) ev_c (rv_eq rfl))) kN_N) (fun _ H1 e1 => ?_) (fun hb => nomatch hb)
        have g1 := e1 _ _ h1
        refine s_ret (ev_op (x := .str (((("new " : Str) ++ n) ++ (" " : Str)) ++ iS kk ++ (" " : Str))) (y := .str (txP r)) (ev_op (x := .str (((("new " : Str) ++ n) ++ (" " : Str)) ++ iS kk)) (y := .str " ") (ev_op (x := .str ((("new " : Str) ++ n) ++ (" " : Str))) (y := .str (iS kk)) (ev_op (x := .str (("new " : Str) ++ n)) (y := .str " ") (ev_op (x := .str "new ") (y := .str n) ev_c (ixk g1 rfl rfl) (rv_cat ?_)) ev_c (rv_cat ?_)) (ev_cb (ea_cons (ixk g1 rfl rfl) ea_nil) (rc_strI (iOk (by omega) (by omega)))) (rv_cat ?_)) ev_c (rv_cat ?_)) (ev_lt (d := d) (ea_cons (ixk g1 rfl rfl) ea_nil) (h2.ex e1) alr (by omega) (by omega)) (rv_cat ?_)) (fun H2 e2 => q H2 (e1.trans e2))
        all_goals simp only [Str.length_append, show ("new " : Str).length = 4 from by decide, show (" " : Str).length = 1 from by decide]; omega
      | cond lo ro y n =>
        unfold TrAt at ht
        obtain ⟨b, b', h1, h2, h3⟩ := ht
        unfold AlP at al
        obtain ⟨hl, hr', aly, aln⟩ := al
        have eD : (Pr.cond lo ro y n).depth = 1 + max y.depth n.depth := by rw [Pr.depth]
        have eS : (Pr.cond lo ro y n).size = 1 + (y.size + n.size) := by rw [Pr.size]
        have p1 := Pr.size_pos y
        have p2 := Pr.size_pos n
        have tl := tx_len aly
        have tl2 := tx_len aln
        have ol := opS_len hl
        have ol2 := opS_len hr'
        rw [tx_cond] at q
        refine q_when (b := false) (et_is (et_test (ev_op (ixk h1 rfl rfl) ev_c (rv_eq rfl))) kI_N) (fun hb => nomatch hb) (fun _ H1 e1 => ?_)
        refine q_when (b := true) (et_is (et_test (ev_op (ixk (e1 _ _ h1) rfl rfl) ev_c (rv_eq rfl))) kI_I) (fun _ H2 e2 => ?_) (fun hb => nomatch hb)
        have x2 := e1.trans e2
        have g2 := x2 _ _ h1
        refine q_asg (v := .str ((txP y ++ (" else " : Str)) ++ txP n)) (ev_op (x := .str (txP y ++ (" else " : Str))) (y := .str (txP n)) (ev_op (x := .str (txP y)) (y := .str " else ") (ev_lt (d := d) (ea_cons (ixk g2 rfl rfl) ea_nil) (h2.ex x2) aly (by omega) (by omega)) ev_c (rv_cat ?_)) (ev_lt (d := d) (ea_cons (ixk g2 rfl rfl) ea_nil) (h3.ex x2) aln (by omega) (by omega)) (rv_cat ?_)) (fun H3 e3 => ?_)
        · simp only [Str.length_append, show (" else " : Str).length = 6 from by decide]
          omega
        · simp only [Str.length_append, show (" else " : Str).length = 6 from by decide]
          omega
        have x3 := x2.trans e3
        have g3 := x3 _ _ h1
        refine s_ret (ev_op (x := .str ((((("if " : Str) ++ opS lo) ++ (" = " : Str)) ++ opS ro) ++ (" then " : Str))) (y := .str ((txP y ++ (" else " : Str)) ++ txP n)) (ev_op (x := .str (((("if " : Str) ++ opS lo) ++ (" = " : Str)) ++ opS ro)) (y := .str " then ") (ev_op (x := .str ((("if " : Str) ++ opS lo) ++ (" = " : Str))) (y := .str (opS ro)) (ev_op (x := .str (("if " : Str) ++ opS lo)) (y := .str " = ") (ev_op (x := .str "if ") (y := .str (opS lo)) ev_c (ev_cb (ea_cons (ixk g3 rfl rfl) ea_nil) (rc_strO hl)) (rv_cat ?_)) ev_c (rv_cat ?_)) (ev_cb (ea_cons (ixk g3 rfl rfl) ea_nil) (rc_strO hr')) (rv_cat ?_)) ev_c (rv_cat ?_)) (ev_var rfl) (rv_cat ?_)) (fun H4 e4 => q H4 (x3.trans e4))
        all_goals simp only [Str.length_append, show ("if " : Str).length = 3 from by decide, show (" = " : Str).length = 3 from by decide, show (" then " : Str).length = 6 from by decide, show (" else " : Str).length = 6 from by decide]; omega
      | call n ops =>
        unfold TrAt at ht
        obtain ⟨u, h1, h2⟩ := ht
        have shp := sh_P _ al
        have tlp := tkP_len _ al
        unfold AlP at al
        obtain ⟨hn, hol, hoo⟩ := al
        refine q_when (b := false) (et_is (et_test (ev_op (ixk h1 rfl rfl) ev_c (rv_eq rfl))) kL_N) (fun hb => nomatch hb) (fun _ H1 e1 => ?_)
        refine q_when (b := false) (et_is (et_test (ev_op (ixk (e1 _ _ h1) rfl rfl) ev_c (rv_eq rfl))) kL_I) (fun hb => nomatch hb) (fun _ H2 e2 => ?_)
        have x2 := e1.trans e2
        refine q_when (b := true) (et_is (et_test (ev_op (ixk (x2 _ _ h1) rfl rfl) ev_c (rv_eq rfl))) kL_L) (fun _ H3 e3 => ?_) (fun hb => nomatch hb)
        have x3 := x2.trans e3
        have g3 := x3 _ _ h1
        have ek : tkP (.call n ops) = (([n, "("] : List Str) ++ ops.map opS) ++ ([")"] : List Str) := by
          rw [tkP]
          unfold tkB
          simp
        unfold txP at q
        rw [ek] at q shp tlp
        have sm := sum_le_mul _ shp
        refine s_ret (ev_join (ys := (([n, "("] : List Str) ++ ops.map opS) ++ ([")"] : List Str)) ev_c (el_catS (xs := ([n, "("] : List Str) ++ ops.map opS) (ys := ([")"] : List Str)) (el_catS (xs := ([n, "("] : List Str)) (ys := ops.map opS) (el_lst (ea_cons (ixk g3 rfl rfl) (ea_cons ev_c ea_nil)) (by show 2 ≤ 100000; decide)) ?_ ?_) (el_lst (ea_cons ev_c ea_nil) (by show 1 ≤ 100000; decide)) ?_) ?_) (fun H4 e4 => q H4 (x3.trans e4))
        · refine el_lcLy (ixk g3 rfl rfl) (sq_of (x3 _ _ h2)) (by rw [List.length_map]; omega) (fun _ => rfl) (by rw [List.length_map, List.length_map, List.length_map]) (fun i x y H4 e4 hx hy => ?_)
          rw [List.map_map, List.getElem?_map] at hy
          rw [List.getElem?_map] at hx
          cases hoi : ops[i]? with
          | none =>
            rw [hoi] at hx
            cases hx
          | some o =>
            rw [hoi] at hx hy
            cases hx
            cases hy
            exact ev_cb (ea_cons (ev_var rfl) ea_nil) (rc_strO (hoo o (List.mem_of_getElem? hoi)))
        · rw [List.length_map]
          show 2 + _ ≤ _
          omega
        · rw [List.length_append, List.length_map]
          show 2 + _ + 1 ≤ _
          omega
        · rw [show (" " : Str).length = 1 from by decide, Nat.mul_one]
          omega
      | choice os =>
        unfold TrAt at ht
        obtain ⟨l, xs, h1, h2, h3⟩ := ht
        have al0 := al
        unfold AlP at al
        obtain ⟨hlen, hao⟩ := al
        obtain ⟨nd, nz⟩ := ch_num os
        rw [nd] at hd
        rw [nz] at hs tl0
        refine q_when (b := false) (et_is (et_test (ev_op (ixk h1 rfl rfl) ev_c (rv_eq rfl))) kC_N) (fun hb => nomatch hb) (fun _ H1 e1 => ?_)
        refine q_when (b := false) (et_is (et_test (ev_op (ixk (e1 _ _ h1) rfl rfl) ev_c (rv_eq rfl))) kC_I) (fun hb => nomatch hb) (fun _ H2 e2 => ?_)
        have x2 := e1.trans e2
        refine q_when (b := false) (et_is (et_test (ev_op (ixk (x2 _ _ h1) rfl rfl) ev_c (rv_eq rfl))) kC_L) (fun hb => nomatch hb) (fun _ H3 e3 => ?_)
        have x3 := x2.trans e3
        have lenL : RC (fun xs H Q => ∃ p ys, xs = [V.ref p] ∧ (SqL K H p ys ∨ SqT K H p ys) ∧ Q (.int ys.length) H) [.ref l] H3 (.int (xs.length : Int)) := fun H9 e9 Q' q' => ⟨l, xs, rfl, .inl (sq_of ((x3.trans e9) _ _ h2)), q' H9 (Ex.refl H9)⟩
        have hxl : xs.length = os.len := OfsTr.len h3
        cases hos0 : os with
        | nil =>
          rw [hos0] at hxl q
          rw [tx_stop] at q
          refine q_when (b := true) (et_is (et_test (ev_op (ev_cb (ea_cons (ixk (x3 _ _ h1) rfl rfl) ea_nil) lenL) ev_c (rv_eq rfl))) (by rw [hxl]; rfl)) (fun _ H4 e4 => ?_) (fun hb => nomatch hb)
          exact s_ret ev_c (fun H5 e5 => q H5 ((x3.trans e4).trans e5))
        | cons c0 s0 m0 op0 ns0 r0 os0 =>
          have hpos : 0 < os.len := by rw [hos0]; exact Nat.succ_pos _
          clear hos0
          rw [tx_choice hpos] at q tl0
          simp only [Str.length_append] at tl0
          refine q_when (b := false) (et_is (et_test (ev_op (ev_cb (ea_cons (ixk (x3 _ _ h1) rfl rfl) ea_nil) lenL) ev_c (rv_eq rfl))) (decide_eq_false (fun z => by have := V.int.inj z; omega))) (fun hb => nomatch hb) (fun _ H4 e4 => ?_)
          have x4 := x3.trans e4
          refine q_asgL (xs := []) (el_lst ea_nil (by show 0 ≤ 100000; decide)) (fun tt H5 htt e5 h5 => ?_)
          have x5 := x4.trans e5
          have htt0 : H tt = none := fresh_back x4 htt
          refine q_forL (a := l) (xs := xs) (ixk (x5 _ _ h1) rfl rfl) (sq_of (x5 _ _ h2)) (fun i σ' H' => ∃ (pre post : Ofs) (v3 v4 v5 v6 v7 v8 v9 : Option V), σ' = [some (.ref a), none, some (.ref tt), v3, v4, v5, v6, v7, v8, v9, none] ∧ os = pre.app post ∧ OfsTr H (xs.drop i) post ∧ H' tt = some (.lst ((txO pre).map V.str)) ∧ Ex H H')
            (fun H6 e6 => ⟨.nil, os, _, _, _, _, _, _, _, rfl, rfl, h3, e6 _ _ h5, x5.trans e6⟩) (fun i σ' H' _ ⟨_, _, _, _, _, _, _, _, _, _, _, _, _, he⟩ => sq_of (he _ _ h2)) (fun i x σ' H' hx ⟨pre, post, v3, v4, v5, v6, v7, v8, v9, hσ, hos, hof, htx, he⟩ => ?_) (fun σ' H' ⟨pre, post, v3, v4, v5, v6, v7, v8, v9, hσ, hos, hof, htx, he⟩ => ?_)
          · subst hσ
            have hd0 : (xs.drop i)[0]? = some x := by rw [List.getElem?_drop, Nat.add_zero]; exact hx
            cases post with
            | nil =>
              unfold OfsTr at hof
              rw [hof] at hd0
              cases hd0
            | cons ch s m op ns r post =>
              unfold OfsTr at hof
              obtain ⟨o, u, b2, qs, hdr, ho, hu, htr, hof⟩ := hof
              rw [hdr] at hd0
              obtain rfl : x = .ref o := (Option.some.inj hd0).symm
              have hdr1 : xs.drop (i + 1) = qs := by rw [← List.drop_drop, hdr]; rfl
              rw [hos] at hao
              obtain ⟨ap, aq⟩ := AlO.app hao
              unfold AlO at aq
              obtain ⟨ofk, alr, alq⟩ := aq
              have eD : os.depth = max pre.depth (max r.depth post.depth) := by rw [hos, Ofs.app_depth, Ofs.depth]
              have eS : os.sum = pre.sum + (r.size + post.sum) := by rw [hos, Ofs.app_sum, Ofs.sum]
              have eL : os.len = pre.len + (post.len + 1) := by rw [hos, Ofs.app_len]; rfl
              have p1 := Ofs.sum_nn pre
              have p2 := Ofs.sum_nn post
              have p3 := Pr.size_pos r
              have m1 := ofk.m1
              have m4 := ofk.m4
              have s0' := ofk.s0
              have s1' := ofk.s1
              have nl := ns_len ofk
              have tr := tx_len alr
              have th := tkH_sh ofk
              refine ⟨o, _, rfl, st_of (he _ _ ho), rfl, _, _, rfl, _, _, rfl, _, _, rfl, _, _, rfl, _, _, rfl, _, _, rfl, rfl, ?_⟩
              refine q_asgL (σ := [some (.ref a), none, some (.ref tt), some (.str ch), some (.int s), some (.int m), some op.v, some (.ref u), some (.ref b2), v9, none]) (xs := (tkH ch s m op ns).map V.str) (el_is (el_catS (xs := ([ch, iS s, "/", iS m, "put", opS op, "get", "("] : List Str) ++ ns) (ys := ([")", "then"] : List Str))
                (el_is (el_catR (xs := ([ch, iS s, "/", iS m, "put", opS op, "get", "("] : List Str).map V.str) (ys := ns.map V.str) (el_lst (ea_cons (ev_var rfl) (ea_cons (ev_cb (ea_cons (ev_var rfl) ea_nil) (rc_strI (iOk s0' (by omega)))) (ea_cons ev_c (ea_cons (ev_cb (ea_cons (ev_var rfl) ea_nil) (rc_strI (iOk (by omega) (by omega)))) (ea_cons ev_c (ea_cons (ev_cb (ea_cons (ev_var rfl) ea_nil) (rc_strO ofk.op)) (ea_cons ev_c (ea_cons ev_c ea_nil)))))))) (by show 8 ≤ 100000; decide)) (ev_var rfl) (he _ _ hu) (by rw [sizeLine_eq, List.length_map, List.length_map]; show 8 + _ ≤ _; omega)) mapS)
                (el_lst (ea_cons ev_c (ea_cons ev_c ea_nil)) (by show 2 ≤ 100000; decide)) (by rw [List.length_append]; show 8 + _ + 2 ≤ _; omega)) (by rw [tkH_eq])) (fun hh H7 hhh e7 h7 => ?_)
              have y7 := he.trans e7
              have htx7 := e7 _ _ htx
              have hsz : (txO pre).length ≤ 6 := by rw [txO_len]; omega
              have sm := sum_le_mul _ (sh_H ofk)
              have tk := tkH_len (c := ch) (s := s) (m := m) (op := op) (ns := ns)
              refine s_app (v := .str (txH ch s m op ns r)) htx7 (ev_var rfl) (ev_op (x := .str (Str.join spS (tkH ch s m op ns) ++ (" " : Str))) (y := .str (txP r)) (ev_op (x := .str (Str.join spS (tkH ch s m op ns))) (y := .str " ") (ev_joinV (ys := tkH ch s m op ns) ev_c (ev_var rfl) h7 ?_) ev_c (rv_cat ?_)) (ev_lt (d := d) (ea_cons (ev_var rfl) ea_nil) (htr.ex y7) alr (by omega) (by omega)) (rv_cat ?_)) (by rw [List.length_map]; omega) (fun H8 e8 => ?_)
              · rw [show (" " : Str).length = 1 from by decide, Nat.mul_one]
                omega
              · rw [show (" " : Str).length = 1 from by decide]
                omega
              · rw [Str.length_append, show (" " : Str).length = 1 from by decide]
                omega
              · refine ⟨pre.app (.cons ch s m op ns r .nil), post, _, _, _, _, _, _, _, rfl, by rw [Ofs.app_assoc]; exact hos, by rw [hdr1]; exact hof, ?_, Ex.mut (y7.trans e8) htt0⟩
                rw [txO_app, List.map_append]
                exact upd_same
          · subst hσ
            rw [List.drop_length] at hof
            cases post with
            | nil =>
              rw [Ofs.app_nil] at hos
              subst hos
              have s1 := sum_le_mul _ (txO_sh os hao (by omega))
              have s2 := txO_len os
              refine s_ret (ev_op (x := .str (("[ " : Str) ++ Str.join (" + " : Str) (txO os))) (y := .str " ]") (ev_op (x := .str "[ ") (y := .str (Str.join (" + " : Str) (txO os))) ev_c (ev_joinV (ys := txO os) ev_c (ev_var rfl) htx ?_) (rv_cat ?_)) ev_c (rv_cat ?_)) (fun H7 e7 => q H7 (he.trans e7))
              · rw [show (" + " : Str).length = 3 from by decide]
                omega
              · rw [show ("[ " : Str).length = 2 from by decide]
                omega
              · rw [Str.length_append, show ("[ " : Str).length = 2 from by decide, show (" ]" : Str).length = 2 from by decide]
                omega
            | cons ch s m op ns r post =>
              unfold OfsTr at hof
              obtain ⟨o, u, b2, qs, hdr, _⟩ := hof
              cases hdr
end
end Fs

set_option Elab.async false
set_option linter.all false
set_option maxRecDepth 100000
set_option maxHeartbeats 8000000
namespace Fs
open PySem L2 Evl FsE FsC FsR FsT FsK
def spLaw (K : PySem.W.Frag) : Sp := fun vs H Q _ => ∃ (a : Addr) (ns : List Int), vs = [.ref a] ∧ SqL K H a (ns.map V.int) ∧ RetV (.bl true) H Q
section
variable {P : Program} {w : World} {K : PySem.W.Frag} {mg : Str → Option Value} {base : Heap} {C CB : Addr}
theorem scLaw : FnScope ["_law_script", "_law_k", "_law_term_here", "_law_text"] ["_law_script"] (defScope (topS 47)) := ⟨rfl, rfl, rfl, by decide +kernel, rfl, by decide +kernel, by decide +kernel⟩
theorem ok_law {f : Addr} {fd : FuncData} (F : Fun K "law" "law" (topS 47) f fd) (L : LawT K mg) (B : BasT K mg) (GC : CalX P w K mg base CX0 1 "_law_cell_at" (spCellAt K)) (GR : CalX P w K mg base CX0 2 "_law_row" spRow) (GT : CalX P w K mg base CX0 8 "_law_term" (spTerm 4)) (GM : CalX P w K mg base CX0 10 "_law_made" (spMade C 4)) (GX : CalX P w K mg base CX0 14 "process_text" (spTX C 4)) (GL : CalX P w K mg base CX0 5 "_law_process_text" (spLT 4)) :
    FnOk P w K mg base CX0 15 f fd ["_law_script"] (spLaw K) := by
  refine F.ok (k := 14) scLaw (fun vs H Q E h => ?_) (fun cdv A outer s H vs Q E hr h => ?_)
  · obtain ⟨a, ns, rfl, _⟩ := h
    rfl
  · obtain ⟨a, ns, rfl, hS, q⟩ := h
    refine ⟨_, pss_cons (ps_for PassesOwn.never rfl (pi_range1 rfl L.range (pa_cons pe_int pa_nil)) (pg_name (i := 1) scLaw.nd rfl (Or.inl rfl))
        (pss_cons (ps_set (i := 2) scLaw.nd rfl (Or.inl rfl) (pe_cx (E := fun _ => E0) GT hr (by omega) (by rfl) at0 (pa_cons (pe_cx (E := fun _ => E0) GR hr (by omega) (by rfl) at0 (pa_cons (pe_cx (E := fun _ => E0) GC hr (by omega) (by rfl) at0 (pa_cons (pv 0) (pa_cons (pv 1) pa_nil))) (pa_cons pe_int pa_nil))) (pa_cons pe_int pa_nil))))
        (pss_cons (ps_set (i := 3) scLaw.nd rfl (Or.inl rfl) (pe_cx (E := fun _ => E0) GX hr (by omega) (by rfl) at0 (pa_cons (pe_cx (E := fun _ => E0) GM hr (by omega) (by rfl) at0 (pa_cons (pv 2) pa_nil)) pa_nil)))
        (pss_one (ps_if (PW.pt (pw_or (pt_not (pt_val (pe_callB (id := "isinstance") (r := rIsi K) call_isi (by rfl) B.isinst (by decide +kernel) (pa_cons (pv 3) (pa_cons (pe_bltn (v := .ty "str") (by rfl) B.str (by decide +kernel) rfl) pa_nil)))))
            (pw_or1 (pt_cmpR op_ne (pv 3) (pe_cx (E := fun _ => E0) GL hr (by omega) (by rfl) at0 (pa_cons (pv 2) pa_nil)) (nomark _))))) (pss_one (ps_ret pe_bl)) pss_nil)))))
      (pss_one (ps_ret pe_bl)), ?_⟩
    refine q_forR1 (n := 2) (ea_cons ev_c ea_nil) (by decide) (fun i σ' H' => ∃ (v1 v2 v3 : Option V), σ' = [some (.ref a), v1, v2, v3] ∧ Ex H H') (fun H1 e1 => ⟨_, _, _, rfl, e1⟩) (fun i σ' H' hi ⟨v1, v2, v3, hσ, he⟩ => ?_) (fun σ' H' ⟨v1, v2, v3, hσ, he⟩ => ?_)
    · subst hσ
      refine ⟨_, rfl, _, rfl, a, ns, i, rfl, ex_l he hS, fun c H1 e1 => ⟨c, 135, rfl, by decide, fun row hrow hok rl H2 hrl e2 h2 => ⟨rl, row, 0, rfl, h2, hok, hrow, by decide, by decide, by decide, by decide, fun t p H3 ht e3 htr hp => ?_⟩⟩⟩
      have hd := hp.dep
      have hs : p.size ≤ 22 := hp.siz
      have x3 := ((he.trans e1).trans e2).trans e3
      refine ⟨_, rfl, t, p, rfl, htr, hp.al, hd, by decide, by omega, fun b H4 hb e4 hpb => ⟨b, p, rfl, hpb, hp.al, hd, by omega, fun H5 e5 => ?_⟩⟩
      have x5 := (x3.trans e4).trans e5
      have htr5 := htr.ex (e4.trans e5)
      refine s_when (σ := [some (.ref a), some (.int (i : Int)), some (.ref t), some (.str (txP p))]) (b := false) (et_or (a := false) (b := false) (et_is (et_not (et_B (ev_cb (ea_cons (ev_var rfl) (ea_cons ev_c ea_nil)) (rc_isStr (b := true) (by decide +kernel))))) rfl)
        (fun _ => et_is (et_test (ev_op (x := .str (txP p)) (y := .str (txP p)) (ev_var rfl) (ev_lt (d := 4) (ea_cons (ev_var rfl) ea_nil) htr5 hp.al hd (by omega)) (rv_ne rfl))) (by rw [decide_eq_true rfl]; rfl))) (fun hb => nomatch hb) (fun _ H6 e6 => ⟨_, _, _, rfl, x5.trans e6⟩)
    · subst hσ
      exact s_ret ev_c (fun H6 e6 => q H6 (he.trans e6))
end
end Fs

set_option Elab.async false
set_option linter.all false
set_option maxRecDepth 100000
set_option maxHeartbeats 4000000
namespace FsB
open PySem PySem.W PySem.Calls PyProof.Rows PySem.HandSPX
/-- a made one -/
structure BtMade (h h' : Heap) (e C d : Addr) (v : Value) : Prop where
  keep : ∀ b o, h.get? b = some o → h'.get? b = some o
  big : h.objs.size ≤ e
  obj : ∃ t1 : Addr, h'.get? e = some { cls := .ref C, dict := some d, data := .fields #[.ref t1, .none, .none, .none, .bool false, .none] }
  dbig : h.objs.size ≤ d
  dne : d ≠ e
  ns : h'.Ns1 d (fun y => if y = "field" then some v else none)
section
variable {prog : Program} {w : World} {A : Around} {R : Result → Shared → Prop} {s : Shared} {K : Frag} {mg : Str → Option Value} {x0 : Str} {C fI : Addr}
theorem bt_made (T : ErrTxt prog K mg x0 C fI) {v : Value} (X : K.In s.heap) (G : s.heap.Ns mainGlobals mg) (Bl : ∃ mb, s.heap.Ns builtinsNs mb ∧ mb "super" = some (.type "super")) (hlim : s.heap.NoLimit) (hroom : A.depth + 1 < recursionLimit)
    (hq : ∀ h' tk' e d, BtMade s.heap h' e C d v → R (.ok (.ret (.ref e))) { s with heap := h', toks := tk' }) : codeAny (model prog w) A (.call (.ref C) ⟨[v], []⟩) R s := by
  obtain ⟨nm, q, N, bs, bm, sn, sub, ab, col, dd, k0, k1, k2, k3, k5, hC, hbm⟩ := T.cls
  obtain ⟨g0, gs, dr, t, os⟩ := s
  let g2 : Heap := (g0.push (kdv_tup [v])).push (excO C g0.objs.size)
  have up : ∀ b o, g0.get? b = some o → g2.get? b = some o := fun b o e => Heap.get?_push_of_some _ (Heap.get?_push_of_some _ e)
  have at1 : g2.get? (g0.objs.size + 1) = some (excO C g0.objs.size) := by
    show ((g0.push (kdv_tup [v])).push (excO C g0.objs.size)).get? (g0.objs.size + 1) = _
    heap_get
  have sz2 : g2.objs.size = g0.objs.size + 1 + 1 := by
    show ((g0.push (kdv_tup [v])).push (excO C g0.objs.size)).objs.size = _
    rw [Heap.size_push, Heap.size_push]
  have free1 : g0.get? (g0.objs.size + 1) = none := by
    cases e : g0.get? (g0.objs.size + 1) with
    | none => rfl
    | some o => exact absurd (Nat.lt_of_succ_lt (Heap.lt_size e)) (Nat.lt_irrefl _)
  refine call_own F.excBase_ValueError (fun Y => refsVE_contains Y bm hbm) (X _ _ hC) (looks_findIn X T.iC) (fun self => bind_fn X self T.tC) (len1 _) ?_
  refine bt_init (s := ⟨g2, gs, dr, t, os⟩) (hp := g0) T X G Bl (hlim.keeps up) up (by show g0.objs.size ≤ g2.objs.size; omega) at1 free1 hroom fun h' t' dx t1 ⟨k, ho, dbig, dne, hns⟩ => ?_
  exact ⟨rfl, hq h' t' (g0.objs.size + 1) dx ⟨k, Nat.le_succ _, ⟨t1, ho⟩, dbig, dne, hns⟩⟩
end
end FsB
namespace Fs
open PySem PySem.Spec PyProof.Rows L2 FsB
theorem relO_field {f : Str} {v : V} {u : Value} (r : RelV v u) (g : Str) : RelO (List.lookup g [(f, v)]) (if g = f then some u else none) := by
  by_cases h : g = f
  · rw [h, if_pos rfl, show List.lookup f [(f, v)] = some v by simp [List.lookup]]
    exact r
  · rw [if_neg h, show List.lookup g [(f, v)] = none by simp [List.lookup, show (g == f) = false by simpa using h]]
    trivial
theorem raises_bt {P : Program} {w : World} {K : PySem.W.Frag} {mg : Str → Option Value} {base : Heap} {x : Str} {C fI : Addr} {k : Nat} (hdb : (x == ("__debug__" : Str)) = false) (T : ErrTxt P K mg x C fI) : RaisesX P w K mg base x C "field" k := by
  intro X eP ew eK em eb hr a ta p pos ha hg he hpl pins s σ H Q I h
  subst eP ew eK em eb
  refine wpAny_Call_Name_kw (ld_glob I hg T.gC ?_ hdb)
  refine PySem.W.callWith_K (h₀ := X.base) I.ok.mod.kin T.kC (thn (ha.run pos pins s σ H _ I h) fun us s1 ⟨vs, H1, I1, r1, z, ev, hz, q1⟩ => ?_) he hpl
  subst ev
  refine ⟨I1.kIn, ?_⟩
  cases r1 with
  | cons rv rn =>
    cases rn
    obtain ⟨tk, rfl⟩ := rv
    show wpAny _ _ (call (.ref C) [.str z tk]) _ _ _
    have lim := I1.nolimit
    obtain ⟨mb, b1, b2⟩ := I1.ok.mod.blt
    have gl : s1.heap.Ns mainGlobals X.mg := I1.ok.mod.glob.keeps I1.bk
    have bl : ∃ mb, s1.heap.Ns builtinsNs mb ∧ mb "super" = some (.type "super") := ⟨mb, b1.keeps I1.bk, (b2 _ (by decide)).trans Boot.«super»⟩
    obtain ⟨g0, gs, dr, t, os⟩ := s1
    refine wpAny_call (bt_made T I1.kIn gl bl lim (by have := hr.dp; omega) fun h' t' e d M => ?_)
    show MkP X pins σ Q (.ref e) ⟨h', gs, dr, t', os⟩
    obtain ⟨t1, ho⟩ := M.obj
    obtain ⟨G', ge1, ge2⟩ := restrict h' fun b => decide (b ≠ e)
    have same : ∀ b, b ≠ e → G'.get? b = h'.get? b := fun b hb => ge1 b (decide_eq_true hb)
    have gone : G'.get? e = none := ge2 e (by simp)
    have old : ∀ b o, g0.get? b = some o → G'.get? b = some o := fun b o q => (same b (Nat.ne_of_lt (Nat.lt_of_lt_of_le (Heap.lt_size q) M.big))).trans (M.keep b o q)
    have ob : ObjOk X.prog X.w (upd H1 d (.xd [(("field" : Str), V.str z)])) G' d (.xd [(("field" : Str), V.str z)]) := ⟨_, M.ns.at (fun o q => (same d M.dne).trans q), fun f => relO_field (v := V.str z) ⟨tk, rfl⟩ f⟩
    have J : Inv X pins σ (upd H1 d (.xd [(("field" : Str), V.str z)])) ⟨G', gs, dr, t', os⟩ := I1.laid (t' := t') old M.dbig ob
    refine ⟨e, _, _, ⟨G', gs, dr, t', os⟩, _, .ref C, some d, rfl, J, fun b o q => ?_, gone, ho, ⟨rfl, rfl⟩, rfl, rfl, ?_, rfl, I1.bare, raises_own T.exC T.tyC, q1 d (I1.hok.fresh M.dbig)⟩
    · by_cases hb : b = e
      · have q' : G'.get? b = some o := q
        rw [hb, gone] at q'
        cases q'
      · exact (same b hb).symm.trans q
    · rw [upd_ne (Ne.symm M.dne)]
      exact I1.hok.fresh M.big
end Fs

set_option Elab.async false
set_option linter.all false
set_option maxRecDepth 100000
set_option maxHeartbeats 8000000
namespace Fs
open PySem PySem.Spec PyProof.Rows L2 Evl FsE FsC FsR FsB FsK
theorem exm_own {K : PySem.W.Frag} {S : Addr} (h1 : PySem.W.subIn K (.ref S) (.type "BaseException") = some true) (h2 : PySem.W.isClsIn K S = true) (h3 : PySem.W.typeIn K (.ref S) = some (.type "type")) (h4 : PySem.W.subIn K (.ref S) (.ref S) = some true) : PySem.W.exmOne K (.ref S) (.ref S) = some true := by
  unfold PySem.W.exmOne PySem.W.kitCls
  have h2' : (PySem.W.clsIn K S).isSome = true := h2
  simp only [h1, h2', h3, h4, beq_self_eq_true, Bool.and_self, if_true]
theorem kit_no {K : PySem.W.Frag} {S : Addr} {T : String} (h2 : PySem.W.isClsIn K S = true) (h3 : PySem.W.typeIn K (.ref S) = some (.type "type")) (h4 : PySem.W.subIn K (.type T) (.ref S) = some false) : PySem.W.kitOne K (.type T) (.ref S) = some false := by
  unfold PySem.W.kitOne PySem.W.kitCls
  have h2' : (PySem.W.clsIn K S).isSome = true := h2
  have h0 : (Value.type T == Value.ref S) = false := rfl
  simp only [h0, h2', h3, h4, beq_self_eq_true, Bool.and_self, if_true]
  rfl
theorem kit_own {K : PySem.W.Frag} {S : Addr} (h2 : PySem.W.isClsIn K S = true) (h3 : PySem.W.typeIn K (.ref S) = some (.type "type")) : PySem.W.kitOne K (.ref S) (.ref S) = some true := by
  unfold PySem.W.kitOne PySem.W.kitCls
  have h2' : (PySem.W.clsIn K S).isSome = true := h2
  simp only [h2', h3, beq_self_eq_true, if_true]
theorem all_mk {P : Program} {w : World} {K : PySem.W.Frag} {h : Heap} {mg : Str → Option Value} {fa : Addr} (X : K.In h) (G : h.Ns mainGlobals mg) (hfa : mg "law" = some (.ref fa))
    {fisname : Addr} {odisname anisname : Option Addr} {slisname : Array (Option Value)} {ocisname kVisname dcisname pmisname cdisname ctisname : Value}
    {farenames : Addr} {odarenames anarenames : Option Addr} {slarenames : Array (Option Value)} {ocarenames kVarenames dcarenames pmarenames cdarenames ctarenames : Value}
    {fisint : Addr} {odisint anisint : Option Addr} {slisint : Array (Option Value)} {ocisint kVisint dcisint pmisint cdisint ctisint : Value}
    {fisshort : Addr} {odisshort anisshort : Option Addr} {slisshort : Array (Option Value)} {ocisshort kVisshort dcisshort pmisshort cdisshort ctisshort : Value}
    {fisop : Addr} {odisop anisop : Option Addr} {slisop : Array (Option Value)} {ocisop kVisop dcisop pmisop cdisop ctisop : Value}
    {fisseats : Addr} {odisseats anisseats : Option Addr} {slisseats : Array (Option Value)} {ocisseats kVisseats dcisseats pmisseats cdisseats ctisseats : Value}
    {fdemand : Addr} {oddemand andemand : Option Addr} {sldemand : Array (Option Value)} {ocdemand kVdemand dcdemand pmdemand cddemand ctdemand : Value}
    {finner : Addr} {odinner aninner : Option Addr} {slinner : Array (Option Value)} {ocinner kVinner dcinner pminner cdinner ctinner : Value}
    {fsize : Addr} {odsize ansize : Option Addr} {slsize : Array (Option Value)} {ocsize kVsize dcsize pmsize cdsize ctsize : Value}
    {fdepth : Addr} {oddepth andepth : Option Addr} {sldepth : Array (Option Value)} {ocdepth kVdepth dcdepth pmdepth cddepth ctdepth : Value}
    {fischoice : Addr} {odischoice anischoice : Option Addr} {slischoice : Array (Option Value)} {ocischoice kVischoice dcischoice pmischoice cdischoice ctischoice : Value}
    {fcellat : Addr} {odcellat ancellat : Option Addr} {slcellat : Array (Option Value)} {occellat kVcellat dccellat pmcellat cdcellat ctcellat : Value}
    {fmixed : Addr} {odmixed anmixed : Option Addr} {slmixed : Array (Option Value)} {ocmixed kVmixed dcmixed pmmixed cdmixed ctmixed : Value}
    {frow : Addr} {odrow anrow : Option Addr} {slrow : Array (Option Value)} {ocrow kVrow dcrow pmrow cdrow ctrow : Value}
    {fword : Addr} {odword anword : Option Addr} {slword : Array (Option Value)} {ocword kVword dcword pmword cdword ctword : Value}
    {flop : Addr} {odlop anlop : Option Addr} {sllop : Array (Option Value)} {oclop kVlop dclop pmlop cdlop ctlop : Value}
    {floff : Addr} {odloff anloff : Option Addr} {slloff : Array (Option Value)} {ocloff kVloff dcloff pmloff cdloff ctloff : Value}
    {fterm : Addr} {odterm anterm : Option Addr} {slterm : Array (Option Value)} {octerm kVterm dcterm pmterm cdterm ctterm : Value}
    {fmade : Addr} {odmade anmade : Option Addr} {slmade : Array (Option Value)} {ocmade kVmade dcmade pmmade cdmade ctmade : Value}
    {fltext : Addr} {odltext anltext : Option Addr} {slltext : Array (Option Value)} {ocltext kVltext dcltext pmltext cdltext ctltext : Value}
    {fptext : Addr} {odptext anptext : Option Addr} {slptext : Array (Option Value)} {ocptext kVptext dcptext pmptext cdptext ctptext : Value}
    {fptoks : Addr} {odptoks anptoks : Option Addr} {slptoks : Array (Option Value)} {ocptoks kVptoks dcptoks pmptoks cdptoks ctptoks : Value}
    {fctoks : Addr} {odctoks anctoks : Option Addr} {slctoks : Array (Option Value)} {occtoks kVctoks dcctoks pmctoks cdctoks ctctoks : Value}
    {fotoks : Addr} {odotoks anotoks : Option Addr} {slotoks : Array (Option Value)} {ocotoks kVotoks dcotoks pmotoks cdotoks ctotoks : Value}
    {fbrack : Addr} {odbrack anbrack : Option Addr} {slbrack : Array (Option Value)} {ocbrack kVbrack dcbrack pmbrack cdbrack ctbrack : Value}
    {flaw : Addr} {odlaw anlaw : Option Addr} {sllaw : Array (Option Value)} {oclaw kVlaw dclaw pmlaw cdlaw ctlaw : Value}
    {C CB : Addr}
    {finit : Addr} {odinit aninit : Option Addr} {slinit : Array (Option Value)} {ocinit kVinit dcinit pminit cdinit ctinit : Value}
    {pstop : Addr} {reststop : List Value}
    {fststop : Addr} {odststop anststop : Option Addr} {slststop : Array (Option Value)} {ocststop kVststop dcststop pmststop cdststop ctststop : Value}
    {pnew : Addr} {restnew : List Value}
    {fstnew : Addr} {odstnew anstnew : Option Addr} {slstnew : Array (Option Value)} {ocstnew kVstnew dcstnew pmstnew cdstnew ctstnew : Value}
    {pwhen : Addr} {restwhen : List Value}
    {fstwhen : Addr} {odstwhen anstwhen : Option Addr} {slstwhen : Array (Option Value)} {ocstwhen kVstwhen dcstwhen pmstwhen cdstwhen ctstwhen : Value}
    {pcall : Addr} {restcall : List Value}
    {fstcall : Addr} {odstcall anstcall : Option Addr} {slstcall : Array (Option Value)} {ocstcall kVstcall dcstcall pmstcall cdstcall ctstcall : Value}
    {poffer : Addr} {restoffer : List Value}
    {fstoffer : Addr} {odstoffer anstoffer : Option Addr} {slstoffer : Array (Option Value)} {ocstoffer kVstoffer dcstoffer pmstoffer cdstoffer ctstoffer : Value}
    {fadd : Addr} {odadd anadd : Option Addr} {sladd : Array (Option Value)} {ocadd kVadd dcadd pmadd cdadd ctadd : Value}
    {nmB qB : Str} {NB cS fB cda cc : Addr} {bsB : List Value} {snB : List Str} {subB : List Value} {abB : Bool} {colB : Option Bool} {ddB : Option Addr} {m0 m1 m2 m3 m5 : Option Value} {ocB kVB dcB pmB ctB ccl clB : Value} {odB anB cdd cld : Option Addr} {slB ccs csl : Array (Option Value)} {vsB : Array Value} {fileB : Str} {tfB : Tok} {zM : Str} {b1 b2 q0 r0 r1 r2 r3 r4 r5 r6 r7 r8 : Pos}
    {zL : Str} {tL : Tok}
    {zD : Str} {tD : Tok}
    {iN : Int} {tN : Tok}
    {iT : Int} {tT : Tok}
    {iM : Int} {tM : Tok}
    {iDe : Int} {tDe : Tok}
    {iSi : Int} {tSi : Tok}
    {iOp : Int} {tOp : Tok}
    {iOf : Int} {tOf : Tok}
    {aR : Addr} {odR : Option Addr} {slR : Array (Option Value)} {itsR : Array Value} {nR : Nat}
    (aisname : PySem.W.nsIn K mainGlobals "is_name" = some (some (.ref fisname)))
    (lisname : K.lookup fisname = some ⟨ocisname, odisname, .func (PySem.W.fnOf "is_name" "is_name" (defArgs (topS 7)) (defBody (topS 7)) (defScope (topS 7)) .none kVisname dcisname pmisname anisname cdisname ctisname), slisname⟩)
    (cisname : PySem.W.codeIn K cdisname "is_name" = true)
    (kisname : PySem.W.keepIn K (.ref fisname) = true)
    (aarenames : PySem.W.nsIn K mainGlobals "are_names" = some (some (.ref farenames)))
    (larenames : K.lookup farenames = some ⟨ocarenames, odarenames, .func (PySem.W.fnOf "are_names" "are_names" (defArgs (topS 8)) (defBody (topS 8)) (defScope (topS 8)) .none kVarenames dcarenames pmarenames anarenames cdarenames ctarenames), slarenames⟩)
    (carenames : PySem.W.codeIn K cdarenames "are_names" = true)
    (karenames : PySem.W.keepIn K (.ref farenames) = true)
    (aisint : PySem.W.nsIn K mainGlobals "is_int" = some (some (.ref fisint)))
    (lisint : K.lookup fisint = some ⟨ocisint, odisint, .func (PySem.W.fnOf "is_int" "is_int" (defArgs (topS 9)) (defBody (topS 9)) (defScope (topS 9)) .none kVisint dcisint pmisint anisint cdisint ctisint), slisint⟩)
    (cisint : PySem.W.codeIn K cdisint "is_int" = true)
    (kisint : PySem.W.keepIn K (.ref fisint) = true)
    (aisshort : PySem.W.nsIn K mainGlobals "is_short" = some (some (.ref fisshort)))
    (lisshort : K.lookup fisshort = some ⟨ocisshort, odisshort, .func (PySem.W.fnOf "is_short" "is_short" (defArgs (topS 10)) (defBody (topS 10)) (defScope (topS 10)) .none kVisshort dcisshort pmisshort anisshort cdisshort ctisshort), slisshort⟩)
    (cisshort : PySem.W.codeIn K cdisshort "is_short" = true)
    (kisshort : PySem.W.keepIn K (.ref fisshort) = true)
    (aisop : PySem.W.nsIn K mainGlobals "is_operand" = some (some (.ref fisop)))
    (lisop : K.lookup fisop = some ⟨ocisop, odisop, .func (PySem.W.fnOf "is_operand" "is_operand" (defArgs (topS 11)) (defBody (topS 11)) (defScope (topS 11)) .none kVisop dcisop pmisop anisop cdisop ctisop), slisop⟩)
    (cisop : PySem.W.codeIn K cdisop "is_operand" = true)
    (kisop : PySem.W.keepIn K (.ref fisop) = true)
    (aisseats : PySem.W.nsIn K mainGlobals "is_seats" = some (some (.ref fisseats)))
    (lisseats : K.lookup fisseats = some ⟨ocisseats, odisseats, .func (PySem.W.fnOf "is_seats" "is_seats" (defArgs (topS 12)) (defBody (topS 12)) (defScope (topS 12)) .none kVisseats dcisseats pmisseats anisseats cdisseats ctisseats), slisseats⟩)
    (cisseats : PySem.W.codeIn K cdisseats "is_seats" = true)
    (kisseats : PySem.W.keepIn K (.ref fisseats) = true)
    (ademand : PySem.W.nsIn K mainGlobals "demand" = some (some (.ref fdemand)))
    (ldemand : K.lookup fdemand = some ⟨ocdemand, oddemand, .func (PySem.W.fnOf "demand" "demand" (defArgs (topS 22)) (defBody (topS 22)) (defScope (topS 22)) .none kVdemand dcdemand pmdemand andemand cddemand ctdemand), sldemand⟩)
    (cdemand : PySem.W.codeIn K cddemand "demand" = true)
    (kdemand : PySem.W.keepIn K (.ref fdemand) = true)
    (ainner : PySem.W.nsIn K mainGlobals "inner_processes" = some (some (.ref finner)))
    (linner : K.lookup finner = some ⟨ocinner, odinner, .func (PySem.W.fnOf "inner_processes" "inner_processes" (defArgs (topS 23)) (defBody (topS 23)) (defScope (topS 23)) .none kVinner dcinner pminner aninner cdinner ctinner), slinner⟩)
    (cinner : PySem.W.codeIn K cdinner "inner_processes" = true)
    (kinner : PySem.W.keepIn K (.ref finner) = true)
    (asize : PySem.W.nsIn K mainGlobals "size_of" = some (some (.ref fsize)))
    (lsize : K.lookup fsize = some ⟨ocsize, odsize, .func (PySem.W.fnOf "size_of" "size_of" (defArgs (topS 24)) (defBody (topS 24)) (defScope (topS 24)) .none kVsize dcsize pmsize ansize cdsize ctsize), slsize⟩)
    (csize : PySem.W.codeIn K cdsize "size_of" = true)
    (ksize : PySem.W.keepIn K (.ref fsize) = true)
    (adepth : PySem.W.nsIn K mainGlobals "depth_of" = some (some (.ref fdepth)))
    (ldepth : K.lookup fdepth = some ⟨ocdepth, oddepth, .func (PySem.W.fnOf "depth_of" "depth_of" (defArgs (topS 25)) (defBody (topS 25)) (defScope (topS 25)) .none kVdepth dcdepth pmdepth andepth cddepth ctdepth), sldepth⟩)
    (cdepth : PySem.W.codeIn K cddepth "depth_of" = true)
    (kdepth : PySem.W.keepIn K (.ref fdepth) = true)
    (aischoice : PySem.W.nsIn K mainGlobals "is_choice" = some (some (.ref fischoice)))
    (lischoice : K.lookup fischoice = some ⟨ocischoice, odischoice, .func (PySem.W.fnOf "is_choice" "is_choice" (defArgs (topS 28)) (defBody (topS 28)) (defScope (topS 28)) .none kVischoice dcischoice pmischoice anischoice cdischoice ctischoice), slischoice⟩)
    (cischoice : PySem.W.codeIn K cdischoice "is_choice" = true)
    (kischoice : PySem.W.keepIn K (.ref fischoice) = true)
    (acellat : PySem.W.nsIn K mainGlobals "_law_cell_at" = some (some (.ref fcellat)))
    (lcellat : K.lookup fcellat = some ⟨occellat, odcellat, .func (PySem.W.fnOf "_law_cell_at" "_law_cell_at" (defArgs (topS 38)) (defBody (topS 38)) (defScope (topS 38)) .none kVcellat dccellat pmcellat ancellat cdcellat ctcellat), slcellat⟩)
    (ccellat : PySem.W.codeIn K cdcellat "_law_cell_at" = true)
    (kcellat : PySem.W.keepIn K (.ref fcellat) = true)
    (amixed : PySem.W.nsIn K mainGlobals "_law_mixed" = some (some (.ref fmixed)))
    (lmixed : K.lookup fmixed = some ⟨ocmixed, odmixed, .func (PySem.W.fnOf "_law_mixed" "_law_mixed" (defArgs (topS 39)) (defBody (topS 39)) (defScope (topS 39)) .none kVmixed dcmixed pmmixed anmixed cdmixed ctmixed), slmixed⟩)
    (cmixed : PySem.W.codeIn K cdmixed "_law_mixed" = true)
    (kmixed : PySem.W.keepIn K (.ref fmixed) = true)
    (arow : PySem.W.nsIn K mainGlobals "_law_row" = some (some (.ref frow)))
    (lrow : K.lookup frow = some ⟨ocrow, odrow, .func (PySem.W.fnOf "_law_row" "_law_row" (defArgs (topS 40)) (defBody (topS 40)) (defScope (topS 40)) .none kVrow dcrow pmrow anrow cdrow ctrow), slrow⟩)
    (crow : PySem.W.codeIn K cdrow "_law_row" = true)
    (krow : PySem.W.keepIn K (.ref frow) = true)
    (aword : PySem.W.nsIn K mainGlobals "_law_word" = some (some (.ref fword)))
    (lword : K.lookup fword = some ⟨ocword, odword, .func (PySem.W.fnOf "_law_word" "_law_word" (defArgs (topS 41)) (defBody (topS 41)) (defScope (topS 41)) .none kVword dcword pmword anword cdword ctword), slword⟩)
    (cword : PySem.W.codeIn K cdword "_law_word" = true)
    (kword : PySem.W.keepIn K (.ref fword) = true)
    (alop : PySem.W.nsIn K mainGlobals "_law_operand" = some (some (.ref flop)))
    (llop : K.lookup flop = some ⟨oclop, odlop, .func (PySem.W.fnOf "_law_operand" "_law_operand" (defArgs (topS 42)) (defBody (topS 42)) (defScope (topS 42)) .none kVlop dclop pmlop anlop cdlop ctlop), sllop⟩)
    (clop : PySem.W.codeIn K cdlop "_law_operand" = true)
    (klop : PySem.W.keepIn K (.ref flop) = true)
    (aloff : PySem.W.nsIn K mainGlobals "_law_offer" = some (some (.ref floff)))
    (lloff : K.lookup floff = some ⟨ocloff, odloff, .func (PySem.W.fnOf "_law_offer" "_law_offer" (defArgs (topS 43)) (defBody (topS 43)) (defScope (topS 43)) .none kVloff dcloff pmloff anloff cdloff ctloff), slloff⟩)
    (cloff : PySem.W.codeIn K cdloff "_law_offer" = true)
    (kloff : PySem.W.keepIn K (.ref floff) = true)
    (aterm : PySem.W.nsIn K mainGlobals "_law_term" = some (some (.ref fterm)))
    (lterm : K.lookup fterm = some ⟨octerm, odterm, .func (PySem.W.fnOf "_law_term" "_law_term" (defArgs (topS 44)) (defBody (topS 44)) (defScope (topS 44)) .none kVterm dcterm pmterm anterm cdterm ctterm), slterm⟩)
    (cterm : PySem.W.codeIn K cdterm "_law_term" = true)
    (kterm : PySem.W.keepIn K (.ref fterm) = true)
    (amade : PySem.W.nsIn K mainGlobals "_law_made" = some (some (.ref fmade)))
    (lmade : K.lookup fmade = some ⟨ocmade, odmade, .func (PySem.W.fnOf "_law_made" "_law_made" (defArgs (topS 45)) (defBody (topS 45)) (defScope (topS 45)) .none kVmade dcmade pmmade anmade cdmade ctmade), slmade⟩)
    (cmade : PySem.W.codeIn K cdmade "_law_made" = true)
    (kmade : PySem.W.keepIn K (.ref fmade) = true)
    (altext : PySem.W.nsIn K mainGlobals "_law_process_text" = some (some (.ref fltext)))
    (lltext : K.lookup fltext = some ⟨ocltext, odltext, .func (PySem.W.fnOf "_law_process_text" "_law_process_text" (defArgs (topS 46)) (defBody (topS 46)) (defScope (topS 46)) .none kVltext dcltext pmltext anltext cdltext ctltext), slltext⟩)
    (cltext : PySem.W.codeIn K cdltext "_law_process_text" = true)
    (kltext : PySem.W.keepIn K (.ref fltext) = true)
    (aptext : PySem.W.nsIn K mainGlobals "process_text" = some (some (.ref fptext)))
    (lptext : K.lookup fptext = some ⟨ocptext, odptext, .func (PySem.W.fnOf "process_text" "process_text" (defArgs (topS 32)) (defBody (topS 32)) (defScope (topS 32)) .none kVptext dcptext pmptext anptext cdptext ctptext), slptext⟩)
    (cptext : PySem.W.codeIn K cdptext "process_text" = true)
    (kptext : PySem.W.keepIn K (.ref fptext) = true)
    (aptoks : PySem.W.nsIn K mainGlobals "process_tokens" = some (some (.ref fptoks)))
    (lptoks : K.lookup fptoks = some ⟨ocptoks, odptoks, .func (PySem.W.fnOf "process_tokens" "process_tokens" (defArgs (topS 33)) (defBody (topS 33)) (defScope (topS 33)) .none kVptoks dcptoks pmptoks anptoks cdptoks ctptoks), slptoks⟩)
    (cptoks : PySem.W.codeIn K cdptoks "process_tokens" = true)
    (kptoks : PySem.W.keepIn K (.ref fptoks) = true)
    (actoks : PySem.W.nsIn K mainGlobals "choice_tokens" = some (some (.ref fctoks)))
    (lctoks : K.lookup fctoks = some ⟨occtoks, odctoks, .func (PySem.W.fnOf "choice_tokens" "choice_tokens" (defArgs (topS 34)) (defBody (topS 34)) (defScope (topS 34)) .none kVctoks dcctoks pmctoks anctoks cdctoks ctctoks), slctoks⟩)
    (cctoks : PySem.W.codeIn K cdctoks "choice_tokens" = true)
    (kctoks : PySem.W.keepIn K (.ref fctoks) = true)
    (aotoks : PySem.W.nsIn K mainGlobals "offer_tokens" = some (some (.ref fotoks)))
    (lotoks : K.lookup fotoks = some ⟨ocotoks, odotoks, .func (PySem.W.fnOf "offer_tokens" "offer_tokens" (defArgs (topS 35)) (defBody (topS 35)) (defScope (topS 35)) .none kVotoks dcotoks pmotoks anotoks cdotoks ctotoks), slotoks⟩)
    (cotoks : PySem.W.codeIn K cdotoks "offer_tokens" = true)
    (kotoks : PySem.W.keepIn K (.ref fotoks) = true)
    (abrack : PySem.W.nsIn K mainGlobals "bracketed" = some (some (.ref fbrack)))
    (lbrack : K.lookup fbrack = some ⟨ocbrack, odbrack, .func (PySem.W.fnOf "bracketed" "bracketed" (defArgs (topS 36)) (defBody (topS 36)) (defScope (topS 36)) .none kVbrack dcbrack pmbrack anbrack cdbrack ctbrack), slbrack⟩)
    (cbrack : PySem.W.codeIn K cdbrack "bracketed" = true)
    (kbrack : PySem.W.keepIn K (.ref fbrack) = true)
    (alaw : PySem.W.nsIn K mainGlobals "law" = some (some (.ref flaw)))
    (llaw : K.lookup flaw = some ⟨oclaw, odlaw, .func (PySem.W.fnOf "law" "law" (defArgs (topS 47)) (defBody (topS 47)) (defScope (topS 47)) .none kVlaw dclaw pmlaw anlaw cdlaw ctlaw), sllaw⟩)
    (claw : PySem.W.codeIn K cdlaw "law" = true)
    (klaw : PySem.W.keepIn K (.ref flaw) = true)
    (aC : PySem.W.nsIn K mainGlobals "Process" = some (some (.ref C)))
    (pg : PySem.W.plainGet K C Str.empty = true)
    (hd : PySem.W.hasDictIn K C = true)
    (po : PySem.W.plainOver K C = true)
    (sa : PySem.W.findIn K (.ref C) "__setattr__" = some (some (.builtin "object.__setattr__")))
    (n_kind : PySem.W.findIn K (.ref C) "kind" = some none)
    (n_parts : PySem.W.findIn K (.ref C) "parts" = some none)
    (n_depth : PySem.W.findIn K (.ref C) "depth" = some none)
    (n_size : PySem.W.findIn K (.ref C) "size" = some none)
    (mk : PySem.W.makesIn K C = true)
    (kc : PySem.W.keepIn K (.ref C) = true)
    (aInit : PySem.W.findIn K (.ref C) "__init__" = some (some (.ref finit)))
    (iInit : PySem.W.isFn K (.ref finit) = true)
    (linit : K.lookup finit = some ⟨ocinit, odinit, .func (PySem.W.fnOf "__init__" "Process.__init__" (defArgs (inClass (topS 26) 0)) (defBody (inClass (topS 26) 0)) (defScope (inClass (topS 26) 0)) .none kVinit dcinit pminit aninit cdinit ctinit), slinit⟩)
    (cinit : PySem.W.codeIn K cdinit "Process.__init__" = true)
    (kinit : PySem.W.keepIn K (.ref finit) = true)
    (rdC : PySem.W.readsIn K C (.type "type") = true)
    (gaC : PySem.W.specialIn K (.ref C) "__getattribute__" = some (some (.builtin "type.__getattribute__")))
    (sstop : PySem.W.findCls K (.ref C) (.type "type") "stop" = some (.get (.builtin "staticmethod.__get__") (.ref pstop) .none (.ref C)))
    (rstop : PySem.W.recIn K pstop "staticmethod" = some (.ref fststop :: reststop))
    (lststop : K.lookup fststop = some ⟨ocststop, odststop, .func (PySem.W.fnOf "stop" "Process.stop" (defArgs (inClass (topS 26) 1)) (defBody (inClass (topS 26) 1)) (defScope (inClass (topS 26) 1)) .none kVststop dcststop pmststop anststop cdststop ctststop), slststop⟩)
    (cststop : PySem.W.codeIn K cdststop "Process.stop" = true)
    (kststop : PySem.W.keepIn K (.ref fststop) = true)
    (snew : PySem.W.findCls K (.ref C) (.type "type") "new" = some (.get (.builtin "staticmethod.__get__") (.ref pnew) .none (.ref C)))
    (rnew : PySem.W.recIn K pnew "staticmethod" = some (.ref fstnew :: restnew))
    (lstnew : K.lookup fstnew = some ⟨ocstnew, odstnew, .func (PySem.W.fnOf "new" "Process.new" (defArgs (inClass (topS 26) 3)) (defBody (inClass (topS 26) 3)) (defScope (inClass (topS 26) 3)) .none kVstnew dcstnew pmstnew anstnew cdstnew ctstnew), slstnew⟩)
    (cstnew : PySem.W.codeIn K cdstnew "Process.new" = true)
    (kstnew : PySem.W.keepIn K (.ref fstnew) = true)
    (swhen : PySem.W.findCls K (.ref C) (.type "type") "when" = some (.get (.builtin "staticmethod.__get__") (.ref pwhen) .none (.ref C)))
    (rwhen : PySem.W.recIn K pwhen "staticmethod" = some (.ref fstwhen :: restwhen))
    (lstwhen : K.lookup fstwhen = some ⟨ocstwhen, odstwhen, .func (PySem.W.fnOf "when" "Process.when" (defArgs (inClass (topS 26) 4)) (defBody (inClass (topS 26) 4)) (defScope (inClass (topS 26) 4)) .none kVstwhen dcstwhen pmstwhen anstwhen cdstwhen ctstwhen), slstwhen⟩)
    (cstwhen : PySem.W.codeIn K cdstwhen "Process.when" = true)
    (kstwhen : PySem.W.keepIn K (.ref fstwhen) = true)
    (scall : PySem.W.findCls K (.ref C) (.type "type") "call" = some (.get (.builtin "staticmethod.__get__") (.ref pcall) .none (.ref C)))
    (rcall : PySem.W.recIn K pcall "staticmethod" = some (.ref fstcall :: restcall))
    (lstcall : K.lookup fstcall = some ⟨ocstcall, odstcall, .func (PySem.W.fnOf "call" "Process.call" (defArgs (inClass (topS 26) 5)) (defBody (inClass (topS 26) 5)) (defScope (inClass (topS 26) 5)) .none kVstcall dcstcall pmstcall anstcall cdstcall ctstcall), slstcall⟩)
    (cstcall : PySem.W.codeIn K cdstcall "Process.call" = true)
    (kstcall : PySem.W.keepIn K (.ref fstcall) = true)
    (soffer : PySem.W.findCls K (.ref C) (.type "type") "offer" = some (.get (.builtin "staticmethod.__get__") (.ref poffer) .none (.ref C)))
    (roffer : PySem.W.recIn K poffer "staticmethod" = some (.ref fstoffer :: restoffer))
    (lstoffer : K.lookup fstoffer = some ⟨ocstoffer, odstoffer, .func (PySem.W.fnOf "offer" "Process.offer" (defArgs (inClass (topS 26) 2)) (defBody (inClass (topS 26) 2)) (defScope (inClass (topS 26) 2)) .none kVstoffer dcstoffer pmstoffer anstoffer cdstoffer ctstoffer), slstoffer⟩)
    (cstoffer : PySem.W.codeIn K cdstoffer "Process.offer" = true)
    (kstoffer : PySem.W.keepIn K (.ref fstoffer) = true)
    (opF : PySem.W.selfFirst K C = true)
    (opA : PySem.W.findIn K (.ref C) "__add__" = some (some (.ref fadd)))
    (opI : PySem.W.isFn K (.ref fadd) = true)
    (ladd : K.lookup fadd = some ⟨ocadd, odadd, .func (PySem.W.fnOf "__add__" "Process.__add__" (defArgs (inClass (topS 26) 7)) (defBody (inClass (topS 26) 7)) (defScope (inClass (topS 26) 7)) .none kVadd dcadd pmadd anadd cdadd ctadd), sladd⟩)
    (cadd : PySem.W.codeIn K cdadd "Process.__add__" = true)
    (kadd : PySem.W.keepIn K (.ref fadd) = true)
    (icC : PySem.W.isClsIn K C = true)
    (tyC : PySem.W.typeIn K (.ref C) = some (.type "type"))
    (no_str : PySem.W.subIn K (.type "str") (.ref C) = some false)
    (no_int : PySem.W.subIn K (.type "int") (.ref C) = some false)
    (no_tuple : PySem.W.subIn K (.type "tuple") (.ref C) = some false)
    (haC : PySem.W.findIn K (.ref C) "__class__" = some (some (.builtin "object.__class__")))
    (hnC : PySem.W.specialIn K (.builtin "object.__class__") "__get__" = some (some (.builtin "getset_descriptor.__get__")))
    (htC : PySem.W.takesIn K (.builtin "object.__class__") = some true)
    (hmC : PySem.W.mroIn K C (.type "object") = some true)
    (aB : PySem.W.nsIn K mainGlobals "BadTerm" = some (some (.ref CB)))
    (xB : K.lookup CB = some (excClassObj nmB qB CB NB bsB [.ref cS, .type "ValueError", .type "Exception", .type "BaseException", .type "object"] true snB subB abB colB ddB m0 m1 m2 m3 m5 "ValueError.__new__"))
    (eiB : PySem.W.excInitIn K CB [.type "ValueError", .type "Exception", .type "BaseException", .type "object"] "ValueError.__new__" = true)
    (saB : PySem.W.findIn K (.ref CB) "__setattr__" = some (some (.builtin "object.__setattr__")))
    (noB : PySem.W.findIn K (.ref CB) "field" = some none)
    (iB : PySem.W.findIn K (.ref CB) "__init__" = some (some (.ref fB)))
    (tB : PySem.W.typeIn K (.ref fB) = some (.type "function"))
    (kB : PySem.W.keepIn K (.ref CB) = true)
    (exB : PySem.W.subIn K (.ref CB) (.type "BaseException") = some true)
    (veB : PySem.W.subIn K (.ref CB) (.type "ValueError") = some true)
    (tyB : PySem.W.typeIn K (.ref CB) = some (.type "type"))
    (mroB : PySem.W.mroIn K CB (.ref CB) = some true)
    (spB : PySem.W.ks_superIn K CB CB "__init__" = some (some (.builtin "ValueError.__init__")))
    (opq : PySem.W.nsIn K cStatics "thirdparty.any" = some none)
    (lB : K.lookup fB = some ⟨ocB, odB, .func (PySem.W.ksFn "__init__" "BadTerm.__init__" (FsB.eA b1 b2) (FsB.eB (FsB.eM zM q0) r0 r1 r2 r3 r4 r5 r6 r7 r8) FsB.eS .none kVB dcB pmB anB (.ref cda) ctB cc), slB⟩)
    (cB : PySem.W.codeIn K (.ref cda) "BadTerm.__init__" = true)
    (oB : K.lookup cda = some ⟨ccl, cdd, .fields vsB, ccs⟩)
    (vB : vsB[2]? = some (.str fileB tfB))
    (fB1 : ((P.main.file : Str) == fileB) = true)
    (ceB : K.lookup cc = some ⟨clB, cld, .cell (some (.ref CB)), csl⟩)
    (lnB : (r2.endLine == r3.line) = true)
    (zMB : zM.length ≤ 1000)
    (topB : (P.main.scope.names.lookup ("super" : Str)).isSome = false)
    (gaB : PySem.W.findIn K (.ref CB) "__getattribute__" = some (some (.builtin "BaseException.__getattribute__")))
    (ggB : PySem.W.findIn K (.ref CB) "__getattr__" = some none)
    (hdB : PySem.W.hasDictIn K CB = true)
    (icB : PySem.W.isClsIn K CB = true)
    (sbB : PySem.W.subIn K (.ref CB) (.ref CB) = some true)
    (gL : PySem.W.nsIn K mainGlobals "LETTERS" = some (some (.str zL tL)))
    (hL : zL = lettersS)
    (gD : PySem.W.nsIn K mainGlobals "DIGITS" = some (some (.str zD tD)))
    (hD : zD = digitsS)
    (gN : PySem.W.nsIn K mainGlobals "NAME_LENGTH" = some (some (.int iN tN)))
    (hN : iN = 8)
    (gT : PySem.W.nsIn K mainGlobals "TOO_LONG" = some (some (.int iT tT)))
    (hT : iT = 10 ^ 30)
    (gM : PySem.W.nsIn K mainGlobals "MOST_SEATS" = some (some (.int iM tM)))
    (hM : iM = 4)
    (gDe : PySem.W.nsIn K mainGlobals "MOST_DEPTH" = some (some (.int iDe tDe)))
    (hDe : iDe = 20)
    (gSi : PySem.W.nsIn K mainGlobals "MOST_SIZE" = some (some (.int iSi tSi)))
    (hSi : iSi = 400)
    (gOp : PySem.W.nsIn K mainGlobals "MOST_OPERANDS" = some (some (.int iOp tOp)))
    (hOp : iOp = 4)
    (gOf : PySem.W.nsIn K mainGlobals "MOST_OFFERS" = some (some (.int iOf tOf)))
    (hOf : iOf = 6)
    (gR : PySem.W.nsIn K mainGlobals "RESERVED" = some (some (.ref aR)))
    (lR : K.lookup aR = some ⟨.type "tuple", odR, .seq itsR nR, slR⟩)
    (sR : itsR.size ≤ 1000)
    (hR : Vals reservedV itsR.toList)
    (z_isinstance : PySem.W.nsIn K mainGlobals "isinstance" = some (none))
    (z_str : PySem.W.nsIn K mainGlobals "str" = some (none))
    (z_int : PySem.W.nsIn K mainGlobals "int" = some (none))
    (z_bool : PySem.W.nsIn K mainGlobals "bool" = some (none))
    (z_len : PySem.W.nsIn K mainGlobals "len" = some (none))
    (z_all : PySem.W.nsIn K mainGlobals "all" = some (none))
    (z_sum : PySem.W.nsIn K mainGlobals "sum" = some (none))
    (z_max : PySem.W.nsIn K mainGlobals "max" = some (none))
    (z_tuple : PySem.W.nsIn K mainGlobals "tuple" = some (none))
    (z_abs : PySem.W.nsIn K mainGlobals "abs" = some (none))
    (z_range : PySem.W.nsIn K mainGlobals "range" = some (none))
    (z_super : PySem.W.nsIn K mainGlobals "super" = some (none))
    (z_set : PySem.W.nsIn K mainGlobals "set" = some (none))
    (z_list : PySem.W.nsIn K mainGlobals "list" = some (none)) :
    ∃ fd : FuncData, (∀ (s : Shared) (v : Value), BindsTo s fd ⟨[v], []⟩ [("_law_script", v)]) ∧ ∀ base : Heap, K.In base → base.Ns mainGlobals mg → FnOk P w K mg base CX0 15 fa fd ["_law_script"] (spLaw K) := by
  have e := hfa.symm.trans (PySem.W.mg_of X G alaw)
  cases e
  subst hL hD hN hT hM hDe hSi hOp hOf
  have B : BasT K mg := { letters := ⟨_, PySem.W.mg_of X G gL, _, rfl⟩, digits := ⟨_, PySem.W.mg_of X G gD, _, rfl⟩, nlen := ⟨_, PySem.W.mg_of X G gN, _, rfl⟩, reserved := ⟨aR, PySem.W.mg_of X G gR, fun H => .inr ⟨_, _, _, lR, rfl, rfl, by rw [sizeLine_eq]; omega, hR⟩⟩, toolong := ⟨_, PySem.W.mg_of X G gT, _, rfl⟩, seats := ⟨_, PySem.W.mg_of X G gM, _, rfl⟩, isinst := PySem.W.mg_none_of X G z_isinstance, str := PySem.W.mg_none_of X G z_str, int := PySem.W.mg_none_of X G z_int, bool := PySem.W.mg_none_of X G z_bool, len := PySem.W.mg_none_of X G z_len, all := PySem.W.mg_none_of X G z_all }
  have T : TerT K mg C CB := { cl := ⟨pg, hd, po, sa⟩, nK := n_kind, nP := n_parts, nD := n_depth, nS := n_size, mgC := PySem.W.mg_of X G aC, kStr := kit_no icC tyC no_str, kInt := kit_no icC tyC no_int, kTup := kit_no icC tyC no_tuple, ha := haC, hn := hnC, htk := htC, hm := hmC, sum := PySem.W.mg_none_of X G z_sum, max := PySem.W.mg_none_of X G z_max, tuple := PySem.W.mg_none_of X G z_tuple, depth := ⟨_, PySem.W.mg_of X G gDe, _, rfl⟩, size := ⟨_, PySem.W.mg_of X G gSi, _, rfl⟩ }
  have L : LawT K mg := { len := PySem.W.mg_none_of X G z_len, int := PySem.W.mg_none_of X G z_int, abs := PySem.W.mg_none_of X G z_abs, range := PySem.W.mg_none_of X G z_range }
  have TB : ErrTxt P K mg "BadTerm" CB fB := { gC := PySem.W.mg_of X G aB, cls := ⟨nmB, qB, NB, bsB, _, snB, subB, abB, colB, ddB, m0, m1, m2, m3, m5, xB, rfl⟩, ei := eiB, sa := saB, noN := noB, iC := iB, tC := tB, kC := kB, exC := exB, veC := veB, tyC := tyB, slf := mroB, sup := spB, opq := opq, gs := PySem.W.mg_none_of X G z_super, top := topB, fn := ⟨ocB, odB, anB, kVB, dcB, pmB, ctB, slB, _, cda, cc, ccl, clB, cdd, cld, ccs, csl, vsB, fileB, tfB, zM, b1, b2, q0, r0, r1, r2, r3, r4, r5, r6, r7, r8, lB, cB, oB, vB, fB1, ceB, zMB, lnB⟩ }
  have Fisname := fun_mk (st := (topS 7)) lisname cisname kisname
  have Bisname := Fisname.binds (ps := ["text"]) fun _ _ _ _ _ _ us hl => match us, hl with | [_], _ => rfl
  have Farenames := fun_mk (st := (topS 8)) larenames carenames karenames
  have Barenames := Farenames.binds (ps := ["texts"]) fun _ _ _ _ _ _ us hl => match us, hl with | [_], _ => rfl
  have Fisint := fun_mk (st := (topS 9)) lisint cisint kisint
  have Bisint := Fisint.binds (ps := ["value"]) fun _ _ _ _ _ _ us hl => match us, hl with | [_], _ => rfl
  have Fisshort := fun_mk (st := (topS 10)) lisshort cisshort kisshort
  have Bisshort := Fisshort.binds (ps := ["value"]) fun _ _ _ _ _ _ us hl => match us, hl with | [_], _ => rfl
  have Fisop := fun_mk (st := (topS 11)) lisop cisop kisop
  have Bisop := Fisop.binds (ps := ["part"]) fun _ _ _ _ _ _ us hl => match us, hl with | [_], _ => rfl
  have Fisseats := fun_mk (st := (topS 12)) lisseats cisseats kisseats
  have Bisseats := Fisseats.binds (ps := ["count"]) fun _ _ _ _ _ _ us hl => match us, hl with | [_], _ => rfl
  have Fdemand := fun_mk (st := (topS 22)) ldemand cdemand kdemand
  have Bdemand := Fdemand.binds (ps := ["allowed", "field"]) fun _ _ _ _ _ _ us hl => match us, hl with | [_, _], _ => rfl
  have Finner := fun_mk (st := (topS 23)) linner cinner kinner
  have Binner := Finner.binds (ps := ["kind", "parts"]) fun _ _ _ _ _ _ us hl => match us, hl with | [_, _], _ => rfl
  have Fsize := fun_mk (st := (topS 24)) lsize csize ksize
  have Bsize := Fsize.binds (ps := ["kind", "parts"]) fun _ _ _ _ _ _ us hl => match us, hl with | [_, _], _ => rfl
  have Fdepth := fun_mk (st := (topS 25)) ldepth cdepth kdepth
  have Bdepth := Fdepth.binds (ps := ["kind", "parts"]) fun _ _ _ _ _ _ us hl => match us, hl with | [_, _], _ => rfl
  have Fischoice := fun_mk (st := (topS 28)) lischoice cischoice kischoice
  have Bischoice := Fischoice.binds (ps := ["term"]) fun _ _ _ _ _ _ us hl => match us, hl with | [_], _ => rfl
  have Fcellat := fun_mk (st := (topS 38)) lcellat ccellat kcellat
  have Bcellat := Fcellat.binds (ps := ["_law_script", "_law_k"]) fun _ _ _ _ _ _ us hl => match us, hl with | [_, _], _ => rfl
  have Fmixed := fun_mk (st := (topS 39)) lmixed cmixed kmixed
  have Bmixed := Fmixed.binds (ps := ["_law_cell", "_law_k"]) fun _ _ _ _ _ _ us hl => match us, hl with | [_, _], _ => rfl
  have Frow := fun_mk (st := (topS 40)) lrow crow krow
  have Brow := Frow.binds (ps := ["_law_cell", "_law_many"]) fun _ _ _ _ _ _ us hl => match us, hl with | [_, _], _ => rfl
  have Fword := fun_mk (st := (topS 41)) lword cword kword
  have Bword := Fword.binds (ps := ["_law_draw"]) fun _ _ _ _ _ _ us hl => match us, hl with | [_], _ => rfl
  have Flop := fun_mk (st := (topS 42)) llop clop klop
  have Blop := Flop.binds (ps := ["_law_draw"]) fun _ _ _ _ _ _ us hl => match us, hl with | [_], _ => rfl
  have Floff := fun_mk (st := (topS 43)) lloff cloff kloff
  have Bloff := Floff.binds (ps := ["_law_row_here", "_law_at", "_law_rest"]) fun _ _ _ _ _ _ us hl => match us, hl with | [_, _, _], _ => rfl
  have Fterm := fun_mk (st := (topS 44)) lterm cterm kterm
  have Bterm := Fterm.binds (ps := ["_law_row_here", "_law_node"]) fun _ _ _ _ _ _ us hl => match us, hl with | [_, _], _ => rfl
  have Fmade := fun_mk (st := (topS 45)) lmade cmade kmade
  have Bmade := Fmade.binds (ps := ["_law_term_here"]) fun _ _ _ _ _ _ us hl => match us, hl with | [_], _ => rfl
  have Fltext := fun_mk (st := (topS 46)) lltext cltext kltext
  have Bltext := Fltext.binds (ps := ["_law_process"]) fun _ _ _ _ _ _ us hl => match us, hl with | [_], _ => rfl
  have Fptext := fun_mk (st := (topS 32)) lptext cptext kptext
  have Bptext := Fptext.binds (ps := ["process"]) fun _ _ _ _ _ _ us hl => match us, hl with | [_], _ => rfl
  have Fptoks := fun_mk (st := (topS 33)) lptoks cptoks kptoks
  have Bptoks := Fptoks.binds (ps := ["process"]) fun _ _ _ _ _ _ us hl => match us, hl with | [_], _ => rfl
  have Fctoks := fun_mk (st := (topS 34)) lctoks cctoks kctoks
  have Bctoks := Fctoks.binds (ps := ["offers"]) fun _ _ _ _ _ _ us hl => match us, hl with | [_], _ => rfl
  have Fotoks := fun_mk (st := (topS 35)) lotoks cotoks kotoks
  have Botoks := Fotoks.binds (ps := ["offer"]) fun _ _ _ _ _ _ us hl => match us, hl with | [_], _ => rfl
  have Fbrack := fun_mk (st := (topS 36)) lbrack cbrack kbrack
  have Bbrack := Fbrack.binds (ps := ["operands"]) fun _ _ _ _ _ _ us hl => match us, hl with | [_], _ => rfl
  have Flaw := fun_mk (st := (topS 47)) llaw claw klaw
  have Blaw := Flaw.binds (ps := ["_law_script"]) fun _ _ _ _ _ _ us hl => match us, hl with | [_], _ => rfl
  have Finit := fun_mk (st := (inClass (topS 26) 0)) linit cinit kinit
  have Binit := Finit.binds (ps := ["self", "kind", "parts"]) fun _ _ _ _ _ _ us hl => match us, hl with | [_, _, _], _ => rfl
  have Fststop := fun_mk (st := (inClass (topS 26) 1)) lststop cststop kststop
  have Bststop := Fststop.binds (ps := []) fun _ _ _ _ _ _ us hl => match us, hl with | [], _ => rfl
  have Fstnew := fun_mk (st := (inClass (topS 26) 3)) lstnew cstnew kstnew
  have Bstnew := Fstnew.binds (ps := ["name", "seats", "rest"]) fun _ _ _ _ _ _ us hl => match us, hl with | [_, _, _], _ => rfl
  have Fstwhen := fun_mk (st := (inClass (topS 26) 4)) lstwhen cstwhen kstwhen
  have Bstwhen := Fstwhen.binds (ps := ["left", "right", "yes", "no"]) fun _ _ _ _ _ _ us hl => match us, hl with | [_, _, _, _], _ => rfl
  have Fstcall := fun_mk (st := (inClass (topS 26) 5)) lstcall cstcall kstcall
  have Bstcall := Fstcall.binds (ps := ["name", "operands"]) fun _ _ _ _ _ _ us hl => match us, hl with | [_, _], _ => rfl
  have Fstoffer := fun_mk (st := (inClass (topS 26) 2)) lstoffer cstoffer kstoffer
  have Bstoffer := Fstoffer.binds (ps := ["channel", "seat", "seats", "operand", "names", "rest"]) fun _ _ _ _ _ _ us hl => match us, hl with | [_, _, _, _, _, _], _ => rfl
  refine ⟨PySem.W.fnOf "law" "law" (defArgs (topS 47)) (defBody (topS 47)) (defScope (topS 47)) .none kVlaw dclaw pmlaw anlaw cdlaw ctlaw, fun s v => .of_eq rfl, fun base _ _ => ?_⟩
  have Gisname : CalX P w K mg base CX0 1 "is_name" (spPred nameV) := ⟨_, _, _, ok_is_name Fisname B, PySem.W.mg_of X G aisname, kisname, Bisname⟩
  have Gisint : CalX P w K mg base CX0 1 "is_int" (spPred intV) := ⟨_, _, _, ok_is_int Fisint B, PySem.W.mg_of X G aisint, kisint, Bisint⟩
  have Gisshort : CalX P w K mg base CX0 2 "is_short" (spPred shortV) := ⟨_, _, _, ok_is_short Fisshort B Gisint, PySem.W.mg_of X G aisshort, kisshort, Bisshort⟩
  have Gisop : CalX P w K mg base CX0 3 "is_operand" (spPred operandV) := ⟨_, _, _, ok_is_operand Fisop Gisshort Gisname, PySem.W.mg_of X G aisop, kisop, Bisop⟩
  have Gisseats : CalX P w K mg base CX0 2 "is_seats" (spPred seatsV) := ⟨_, _, _, ok_is_seats Fisseats B Gisint, PySem.W.mg_of X G aisseats, kisseats, Bisseats⟩
  have Ginner : CalX P w K mg base CX0 1 "inner_processes" (spInner C) := ⟨_, _, _, ok_inner Finner B T, PySem.W.mg_of X G ainner, kinner, Binner⟩
  have Gdepth : CalX P w K mg base CX0 2 "depth_of" (spSize C Pr.depth) := ⟨_, _, _, ok_depth Fdepth T Ginner, PySem.W.mg_of X G adepth, kdepth, Bdepth⟩
  have Gsize : CalX P w K mg base CX0 2 "size_of" (spSize C Pr.size) := ⟨_, _, _, ok_size Fsize B T Ginner, PySem.W.mg_of X G asize, ksize, Bsize⟩
  have OD : FnOk P w K mg base (L2.CX P w) 2 fdemand _ ["allowed", "field"] (spDemand CB) := ok_demand Fdemand (raises_bt (k := 1) (by decide) TB)
  have G2d : CalX P w K mg base (L2.CX P w) 2 "demand" (spDemand CB) := ⟨_, _, _, OD, PySem.W.mg_of X G ademand, kdemand, Bdemand⟩
  have G3d : CalX P w K mg base (L2.CX P w) 3 "demand" (spDemand CB) := ⟨_, _, _, OD.mono (by decide), PySem.W.mg_of X G ademand, kdemand, Bdemand⟩
  have GM : MakX P w K mg base (L2.CX P w) 3 "Process" C (spInit C CB) := ⟨_, _, _, ⟨mk, aInit, iInit, kc⟩, ok_init Finit T Gdepth Gsize G2d (Nat.le_refl _), PySem.W.mg_of X G aC, Binit⟩
  have Garenames : CalX P w K mg base CX0 2 "are_names" spNames := ⟨_, _, _, ok_are_names Farenames B (PySem.W.mg_none_of X G z_set) Gisname, PySem.W.mg_of X G aarenames, karenames, Barenames⟩
  have M : MakT P w K mg base C CB 3 := { make := GM, dem := G3d, name := Gisname, seats := Gisseats, operand := Gisop, int := Gisint, names := Garenames, mops := ⟨_, PySem.W.mg_of X G gOp, _, rfl⟩, tuple := PySem.W.mg_none_of X G z_tuple, len := PySem.W.mg_none_of X G z_len, all := PySem.W.mg_none_of X G z_all, hk := Nat.le_refl _ }
  have Sstop : StaX P w K mg base (L2.CX P w) 5 C "stop" (spStop C CB) := ⟨_, _, _, _, _, ⟨rdC, gaC⟩, ⟨sstop, ⟨_, rstop⟩, kststop⟩, ok_stop Fststop M, Bststop⟩
  have Snew : StaX P w K mg base (L2.CX P w) 5 C "new" (spNew C CB) := ⟨_, _, _, _, _, ⟨rdC, gaC⟩, ⟨snew, ⟨_, rnew⟩, kstnew⟩, ok_new Fstnew M, Bstnew⟩
  have Swhen : StaX P w K mg base (L2.CX P w) 5 C "when" (spWhen C CB) := ⟨_, _, _, _, _, ⟨rdC, gaC⟩, ⟨swhen, ⟨_, rwhen⟩, kstwhen⟩, ok_when Fstwhen M, Bstwhen⟩
  have Scall : StaX P w K mg base (L2.CX P w) 5 C "call" (spCall K C CB) := ⟨_, _, _, _, _, ⟨rdC, gaC⟩, ⟨scall, ⟨_, rcall⟩, kstcall⟩, ok_call Fstcall M, Bstcall⟩
  have Soffer : StaX P w K mg base (L2.CX P w) 5 C "offer" (spOffer C CB) := ⟨_, _, _, _, _, ⟨rdC, gaC⟩, ⟨soffer, ⟨_, roffer⟩, kstoffer⟩, ok_offer Fstoffer M, Bstoffer⟩
  have Gischoice : CalX P w K mg base CX0 1 "is_choice" (spChoice C) := ⟨_, _, _, ok_is_choice Fischoice B T, PySem.W.mg_of X G aischoice, kischoice, Bischoice⟩
  have Fadd := fun_mk (st := (inClass (topS 26) 7)) ladd cadd kadd
  have Badd := Fadd.binds (ps := ["self", "other"]) fun _ _ _ _ _ _ us hl => match us, hl with | [_, _], _ => rfl
  have edu : PySem.dunder Operator.Add.info.2 = "__add__" := by decide +kernel
  have OM : FsR.OpM K C .Add fadd := ⟨opF, by rw [edu]; exact opA, opI⟩
  have ST : StaT P w K mg base C CB 5 := ⟨PySem.W.mg_of X G aC, Sstop, Snew, Swhen, Scall, Soffer, ⟨_, _, _, OM, ok_add Fadd T M Gischoice ⟨_, PySem.W.mg_of X G gOf, _, rfl⟩, Badd⟩⟩
  have Gcellat : CalX P w K mg base CX0 1 "_law_cell_at" (spCellAt K) := ⟨_, _, _, ok_cell_at Fcellat L, PySem.W.mg_of X G acellat, kcellat, Bcellat⟩
  have Gmixed : CalX P w K mg base CX0 1 "_law_mixed" spMixed := ⟨_, _, _, ok_mixed Fmixed L, PySem.W.mg_of X G amixed, kmixed, Bmixed⟩
  have Grow : CalX P w K mg base CX0 2 "_law_row" spRow := ⟨_, _, _, ok_row Frow L Gmixed, PySem.W.mg_of X G arow, krow, Brow⟩
  have Gword : CalX P w K mg base CX0 1 "_law_word" spWordX := ⟨_, _, _, ok_word Fword L, PySem.W.mg_of X G aword, kword, Bword⟩
  have Glop : CalX P w K mg base CX0 2 "_law_operand" spOperand := ⟨_, _, _, ok_loperand Flop L Gword, PySem.W.mg_of X G alop, klop, Blop⟩
  have Gloff : CalX P w K mg base CX0 3 "_law_offer" spLOffer := ⟨_, _, _, ok_loffer Floff L Gword Glop, PySem.W.mg_of X G aloff, kloff, Bloff⟩
  have Gterm : CalX P w K mg base CX0 8 "_law_term" (spTerm 4) := ⟨_, _, _, ok_term Fterm L Gword Glop Gloff (PySem.W.mg_of X G aterm) kterm Bterm 4, PySem.W.mg_of X G aterm, kterm, Bterm⟩
  have Gmade : CalX P w K mg base CX0 10 "_law_made" (spMade C 4) := ⟨_, _, _, ok_made Fmade ST (PySem.W.mg_none_of X G z_list) (PySem.W.mg_of X G amade) kmade Bmade 4, PySem.W.mg_of X G amade, kmade, Bmade⟩
  have Gbrack : CalX P w K mg base CX0 1 "bracketed" spBr := ⟨_, _, _, ok_br Fbrack (PySem.W.mg_none_of X G z_str), PySem.W.mg_of X G abrack, kbrack, Bbrack⟩
  have Gptoks : CalX P w K mg base CX0 13 "process_tokens" (spPT C 4) := ⟨_, _, _, ok_pt Fptoks Fotoks Fctoks T (PySem.W.mg_none_of X G z_str) Gbrack (PySem.W.mg_of X G aptoks) kptoks Bptoks (PySem.W.mg_of X G aotoks) kotoks Botoks (PySem.W.mg_of X G actoks) kctoks Bctoks 4, PySem.W.mg_of X G aptoks, kptoks, Bptoks⟩
  have Gptext : CalX P w K mg base CX0 14 "process_text" (spTX C 4) := ⟨_, _, _, ok_tx Fptext Gptoks, PySem.W.mg_of X G aptext, kptext, Bptext⟩
  have Gltext : CalX P w K mg base CX0 5 "_law_process_text" (spLT 4) := ⟨_, _, _, ok_lt Fltext L (PySem.W.mg_none_of X G z_str) (PySem.W.mg_of X G altext) kltext Bltext 4, PySem.W.mg_of X G altext, kltext, Bltext⟩
  exact ok_law Flaw L B Gcellat Grow Gterm Gmade Gptext Gltext
theorem walk {l : PySem.W.OpenLaw} {q : Program} {loose : List Str} {XP : (Str → Option Value) → Heap → Prop} {YP : World → Heap → Prop} {d : DefRec} {K : Params → PySem.W.Frag} (hn : l.most = some 63) (hdf : d.params.defaults = [])
    (hY : ∀ (w : World) (h : Heap), YP w h → (K w.params).In h)
    (hF : ∀ (w : World) (mg : Str → Option Value) (fa : Addr) (h : Heap), (K w.params).In h → h.Ns mainGlobals mg → mg d.name = some (.ref fa) →
      ∃ fd : FuncData, (∀ (s : Shared) (u : Value), BindsTo s fd ⟨[u], []⟩ [("_law_script", u)]) ∧ ∀ base : Heap, (K w.params).In base → base.Ns mainGlobals mg → FnOk l.prog w (K w.params) mg base CX0 15 fa fd ["_law_script"] (spLaw (K w.params))) :
    PySem.W.WalkO q loose XP YP l.row.toRowW d [] (fun f vs => PySem.call f vs) :=
  L2.walk_of (n := 63) (k := 15) (x := "_law_script") (CX := fun _ => CX0) (sp := fun w => spLaw (K w.params)) hn (by decide) hdf ⟨rfl, by decide, by decide⟩ hY hF (fun _ _ a ns _ _ hS => ⟨a, ns, rfl, hS, fun _ _ => rfl⟩) fun _ _ _ _ _ z => z
end Fs

open PySem PySem.W PyProof.Rows
set_option Elab.async false
set_option maxRecDepth 100000 in
set_option maxHeartbeats 0 in
theorem PySem.Challenge.cw_fullseats_k15_written_processes_holds : PySem.Challenge.rw_fullseats_k15_written_processes.Holds := by
  w_on; o_law; k_head; (case hw => w_witness2)
  k_fill
  refine Fs.walk (l := PySem.Challenge.rw_fullseats_k15_written_processes) rfl rfl (fun w h Y => PySem.W.kIn_of Y) ?F
  case F =>
    intro w mg fa h KX G hmg
    refine' Fs.all_mk KX G hmg ?aisname ?lisname ?cisname ?kisname ?aarenames ?larenames ?carenames ?karenames ?aisint ?lisint ?cisint ?kisint ?aisshort ?lisshort ?cisshort ?kisshort ?aisop ?lisop ?cisop ?kisop ?aisseats ?lisseats ?cisseats ?kisseats ?ademand ?ldemand ?cdemand ?kdemand ?ainner ?linner ?cinner ?kinner ?asize ?lsize ?csize ?ksize ?adepth ?ldepth ?cdepth ?kdepth ?aischoice ?lischoice ?cischoice ?kischoice ?acellat ?lcellat ?ccellat ?kcellat ?amixed ?lmixed ?cmixed ?kmixed ?arow ?lrow ?crow ?krow ?aword ?lword ?cword ?kword ?alop ?llop ?clop ?klop ?aloff ?lloff ?cloff ?kloff ?aterm ?lterm ?cterm ?kterm ?amade ?lmade ?cmade ?kmade ?altext ?lltext ?cltext ?kltext ?aptext ?lptext ?cptext ?kptext ?aptoks ?lptoks ?cptoks ?kptoks ?actoks ?lctoks ?cctoks ?kctoks ?aotoks ?lotoks ?cotoks ?kotoks ?abrack ?lbrack ?cbrack ?kbrack ?alaw ?llaw ?claw ?klaw ?aC ?pg ?hd ?po ?sa ?n_kind ?n_parts ?n_depth ?n_size ?mk ?kc ?aInit ?iInit ?linit ?cinit ?kinit ?rdC ?gaC ?sstop ?rstop ?lststop ?cststop ?kststop ?snew ?rnew ?lstnew ?cstnew ?kstnew ?swhen ?rwhen ?lstwhen ?cstwhen ?kstwhen ?scall ?rcall ?lstcall ?cstcall ?kstcall ?soffer ?roffer ?lstoffer ?cstoffer ?kstoffer ?opF ?opA ?opI ?ladd ?cadd ?kadd ?icC ?tyC ?no_str ?no_int ?no_tuple ?haC ?hnC ?htC ?hmC ?aB ?xB ?eiB ?saB ?noB ?iB ?tB ?kB ?exB ?veB ?tyB ?mroB ?spB ?opq ?lB ?cB ?oB ?vB ?fB1 ?ceB ?lnB ?zMB ?topB ?gaB ?ggB ?hdB ?icB ?sbB ?gL ?hL ?gD ?hD ?gN ?hN ?gT ?hT ?gM ?hM ?gDe ?hDe ?gSi ?hSi ?gOp ?hOp ?gOf ?hOf ?gR ?lR ?sR ?hR ?z_isinstance ?z_str ?z_int ?z_bool ?z_len ?z_all ?z_sum ?z_max ?z_tuple ?z_abs ?z_range ?z_super ?z_set ?z_list
    (case aisname => k_is)
    (case lisname => k_is)
    (case cisname => k_is)
    (case kisname => k_is)
    (case aarenames => k_is)
    (case larenames => k_is)
    (case carenames => k_is)
    (case karenames => k_is)
    (case aisint => k_is)
    (case lisint => k_is)
    (case cisint => k_is)
    (case kisint => k_is)
    (case aisshort => k_is)
    (case lisshort => k_is)
    (case cisshort => k_is)
    (case kisshort => k_is)
    (case aisop => k_is)
    (case lisop => k_is)
    (case cisop => k_is)
    (case kisop => k_is)
    (case aisseats => k_is)
    (case lisseats => k_is)
    (case cisseats => k_is)
    (case kisseats => k_is)
    (case ademand => k_is)
    (case ldemand => k_is)
    (case cdemand => k_is)
    (case kdemand => k_is)
    (case ainner => k_is)
    (case linner => k_is)
    (case cinner => k_is)
    (case kinner => k_is)
    (case asize => k_is)
    (case lsize => k_is)
    (case csize => k_is)
    (case ksize => k_is)
    (case adepth => k_is)
    (case ldepth => k_is)
    (case cdepth => k_is)
    (case kdepth => k_is)
    (case aischoice => k_is)
    (case lischoice => k_is)
    (case cischoice => k_is)
    (case kischoice => k_is)
    (case acellat => k_is)
    (case lcellat => k_is)
    (case ccellat => k_is)
    (case kcellat => k_is)
    (case amixed => k_is)
    (case lmixed => k_is)
    (case cmixed => k_is)
    (case kmixed => k_is)
    (case arow => k_is)
    (case lrow => k_is)
    (case crow => k_is)
    (case krow => k_is)
    (case aword => k_is)
    (case lword => k_is)
    (case cword => k_is)
    (case kword => k_is)
    (case alop => k_is)
    (case llop => k_is)
    (case clop => k_is)
    (case klop => k_is)
    (case aloff => k_is)
    (case lloff => k_is)
    (case cloff => k_is)
    (case kloff => k_is)
    (case aterm => k_is)
    (case lterm => k_is)
    (case cterm => k_is)
    (case kterm => k_is)
    (case amade => k_is)
    (case lmade => k_is)
    (case cmade => k_is)
    (case kmade => k_is)
    (case altext => k_is)
    (case lltext => k_is)
    (case cltext => k_is)
    (case kltext => k_is)
    (case aptext => k_is)
    (case lptext => k_is)
    (case cptext => k_is)
    (case kptext => k_is)
    (case aptoks => k_is)
    (case lptoks => k_is)
    (case cptoks => k_is)
    (case kptoks => k_is)
    (case actoks => k_is)
    (case lctoks => k_is)
    (case cctoks => k_is)
    (case kctoks => k_is)
    (case aotoks => k_is)
    (case lotoks => k_is)
    (case cotoks => k_is)
    (case kotoks => k_is)
    (case abrack => k_is)
    (case lbrack => k_is)
    (case cbrack => k_is)
    (case kbrack => k_is)
    (case alaw => k_is)
    (case llaw => k_is)
    (case claw => k_is)
    (case klaw => k_is)
    (case aC => k_is)
    (case pg => k_is)
    (case hd => k_is)
    (case po => k_is)
    (case sa => k_is)
    (case n_kind => k_is)
    (case n_parts => k_is)
    (case n_depth => k_is)
    (case n_size => k_is)
    (case mk => k_is)
    (case kc => k_is)
    (case aInit => k_is)
    (case iInit => k_is)
    (case linit => k_is)
    (case cinit => k_is)
    (case kinit => k_is)
    (case rdC => k_is)
    (case gaC => k_is)
    (case sstop => k_is)
    (case rstop => k_is)
    (case lststop => k_is)
    (case cststop => k_is)
    (case kststop => k_is)
    (case snew => k_is)
    (case rnew => k_is)
    (case lstnew => k_is)
    (case cstnew => k_is)
    (case kstnew => k_is)
    (case swhen => k_is)
    (case rwhen => k_is)
    (case lstwhen => k_is)
    (case cstwhen => k_is)
    (case kstwhen => k_is)
    (case scall => k_is)
    (case rcall => k_is)
    (case lstcall => k_is)
    (case cstcall => k_is)
    (case kstcall => k_is)
    (case soffer => k_is)
    (case roffer => k_is)
    (case lstoffer => k_is)
    (case cstoffer => k_is)
    (case kstoffer => k_is)
    (case opF => k_is)
    (case opA => k_is)
    (case opI => k_is)
    (case ladd => k_is)
    (case cadd => k_is)
    (case kadd => k_is)
    (case icC => k_is)
    (case tyC => k_is)
    (case no_str => k_is)
    (case no_int => k_is)
    (case no_tuple => k_is)
    (case haC => k_is)
    (case hnC => k_is)
    (case htC => k_is)
    (case hmC => k_is)
    (case aB => k_is)
    (case xB => k_is)
    (case eiB => kx_is)
    (case saB => k_is)
    (case noB => k_is)
    (case iB => k_is)
    (case tB => k_is)
    (case kB => k_is)
    (case exB => k_is)
    (case veB => k_is)
    (case tyB => k_is)
    (case mroB => k_is)
    (case spB => ks_is)
    (case opq => k_is)
    (case lB => k_is)
    (case cB => k_is)
    (case oB => k_is)
    (case vB => rfl)
    (case fB1 => decide +kernel)
    (case ceB => k_is)
    (case lnB => decide +kernel)
    (case zMB => decide +kernel)
    (case topB => decide +kernel)
    (case gaB => k_is)
    (case ggB => k_is)
    (case hdB => k_is)
    (case icB => k_is)
    (case sbB => first | rfl | k_is)
    (case gL => k_is)
    (case hL => decide +kernel)
    (case gD => k_is)
    (case hD => decide +kernel)
    (case gN => k_is)
    (case hN => decide +kernel)
    (case gT => k_is)
    (case hT => decide +kernel)
    (case gM => k_is)
    (case hM => decide +kernel)
    (case gDe => k_is)
    (case hDe => decide +kernel)
    (case gSi => k_is)
    (case hSi => decide +kernel)
    (case gOp => k_is)
    (case hOp => decide +kernel)
    (case gOf => k_is)
    (case hOf => decide +kernel)
    (case gR => k_is)
    (case lR => k_is)
    (case sR => decide +kernel)
    (case hR => exact .cons ⟨_, rfl⟩ (.cons ⟨_, rfl⟩ (.cons ⟨_, rfl⟩ (.cons ⟨_, rfl⟩ (.cons ⟨_, rfl⟩ (.cons ⟨_, rfl⟩ (.cons ⟨_, rfl⟩ (.cons ⟨_, rfl⟩ (.cons ⟨_, rfl⟩ (.cons ⟨_, rfl⟩ (.cons ⟨_, rfl⟩ .nil)))))))))))
    (case z_isinstance => k_is)
    (case z_str => k_is)
    (case z_int => k_is)
    (case z_bool => k_is)
    (case z_len => k_is)
    (case z_all => k_is)
    (case z_sum => k_is)
    (case z_max => k_is)
    (case z_tuple => k_is)
    (case z_abs => k_is)
    (case z_range => k_is)
    (case z_super => k_is)
    (case z_set => k_is)
    (case z_list => k_is)

