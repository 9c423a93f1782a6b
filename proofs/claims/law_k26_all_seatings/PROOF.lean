import PyProof.Rows.All
import Wide.All
import OpenK.AllK
import Wide.FinOn
import KE.DatumOrd
import HandS.Base
import HandS.Call
import HandS.List
import HandS.SortKw
import HandS.ForMost
import HandS.ForExc
import HandS.Evl
import HandS.Walk
import HandS.IsInst
import HandS.Codes
import HandS.Exc
import HandS.ExcOwn
import HandS.ClsMeth
import HandS.OwnEq
import HandS.Dict
import HandS.DictComp
import HandS.Comp
import PyProof.EqAt
import PyProof.NeKinds
import HandS.DeepEq
import HandS.TupAny
import HandS.GenList
import KE.SortKeyHeap
import HandS.Lambda
import HandS.More
import HandS.Set
import HandS.SetFor
import HandS.Strs
import PyProof.ListNew
import HandS.Zip
import HandS.SetBool
import HandS.TupSets
import KE.DataMinMax
import KE.SortCalls
import HandS.Flow
import HandS.Style
import HandS.EndTab
import KE.KExcLine
import KE.RegKSuper
import PySem.Challenge.RW_fullseats_k26_all_seatings
set_option Elab.async false
set_option linter.all false
set_option maxRecDepth 100000
set_option maxHeartbeats 2000000
/-! max(xs, default=d) of a list of ints -/
namespace FsR
open PySem PySem.Spec PyProof.Rows L2
def maxFrom (y : Int) (ys : List Int) : Int := ys.foldl max y
def maxDef (d : Int) : List Int → Int
  | [] => d
  | y :: ys => maxFrom y ys
theorem maxOf_eq : ∀ (ys : List Int) (y : Int), PySem.W.maxOf y ys = maxFrom y ys
  | [], y => rfl
  | z :: zs, y => by
    have e : (if PySem.W.DatumOrd.lt y z = true then z else y) = max y z := by
      show (if decide (y < z) = true then z else y) = max y z
      by_cases h : y < z
      · rw [if_pos (decide_eq_true h)]; omega
      · rw [if_neg (by simpa using h)]; omega
    have ih := maxOf_eq zs (max y z)
    unfold PySem.W.maxOf maxFrom at *
    rw [List.foldl_cons, List.foldl_cons, e]
    exact ih
theorem readsAll_ints {h : Heap} : ∀ {vs : List Value} {ns : List Int}, IntsAre vs ns → ∃ as, ReadsAll h vs (ns.map PySem.W.Datum.toD) as
  | _, _, .nil => ⟨[], .nil⟩
  | _, _, .cons n t r => by
    obtain ⟨as, z⟩ := readsAll_ints (h := h) r
    exact ⟨[] ++ as, .cons (.int n t) z⟩
/-- max(xs, default=d) -/
def rMaxD (K : PySem.W.Frag) : List V → List V → Hp → VK → Prop := fun xs zs H Q => ∃ (a : Addr) (ns : List Int) (d : Int), xs = [V.ref a] ∧ zs = [V.int d] ∧ SqL K H a (ns.map V.int) ∧ Q (.int (maxDef d ns)) H
theorem ck_maxD {X : Cx} (hc : X.calm = true) (hu : X.A.units + 1 + 1 < cLine) : CallRK X (.builtin "max") ["default"] (rMaxD X.K) := by
  intro pins s σ H xs zs us ws Q I r rz h
  obtain ⟨a, ns, d, rfl, rfl, hs, q⟩ := h
  obtain ⟨its, rv, hl, _⟩ := I.list hs
  rw [Vals.ref1 r]
  cases rz with
  | cons rd rn =>
    cases rn
    obtain ⟨t, rfl⟩ := rd
    have hI := rv.ints
    show wpAny (model X.prog X.w) X.A (call (.builtin "max") [.ref a] [(Str.ofString "default", .int d t)]) _ _ _
    refine PySem.W.max_list_datum_default (α := Int) (xs := ns) (I.ok.hd hc) hl.isList (readsAll_ints hI) (by show X.A.units + 1 + 0 < cLine; omega) (fun e h' tk hk => ?_) (fun y ys i v h' tk e hi hv hk => ?_)
    · subst e
      exact ⟨.int d, H, I.kept hk, ⟨t, rfl⟩, q⟩
    · subst e
      obtain ⟨as, z⟩ := hv
      have z' : ∃ t', v = Value.int (PySem.W.maxOf y ys) t' := by
        have z2 : Reads h' v (.int (PySem.W.maxOf y ys)) as := z
        cases z2 with
        | int _ t' => exact ⟨t', rfl⟩
      obtain ⟨t', rfl⟩ := z'
      refine ⟨.int (PySem.W.maxOf y ys), H, I.kept hk, ⟨t', rfl⟩, ?_⟩
      rw [maxOf_eq]
      exact q
end FsR

set_option Elab.async false
set_option linter.all false
set_option maxRecDepth 100000
set_option maxHeartbeats 2000000
/-! further Ev lemmas -/
namespace FsE
open PySem L2 Evl
section
variable {K : PySem.W.Frag} {σ : L2.St} {H : Hp} {ta tb tc te : TE} {x y z : V}
theorem ev_chain {r r' : R2} {a b : Bool} (ha : Ev ta σ H x) (hb : Ev tb σ H y) (h1 : RV r x y H (.bl a)) (hc : a = true → Ev tc σ H z) (h2 : a = true → RV r' y z H (.bl b)) : Ev (tChain r r' ta tb tc) σ H (.bl (a && b)) := fun H1 e Q q =>
  ha H1 e _ fun H2 e2 => hb H2 (e.trans e2) _ fun H3 e3 => h1 H3 ((e.trans e2).trans e3) _ fun H4 e4 => ⟨a, rfl, by
    cases a with
    | true =>
      show tc σ H4 _
      exact hc rfl H4 (((e.trans e2).trans e3).trans e4) _ fun H5 e5 => h2 rfl H5 ((((e.trans e2).trans e3).trans e4).trans e5) Q fun H6 e6 => q H6 ((((e2.trans e3).trans e4).trans e5).trans e6)
    | false =>
      show Q (.bl false) H4
      exact q H4 ((e2.trans e3).trans e4)⟩
theorem rc_isi {t T : String} {b : Bool} (ht : ∀ H1, Ex H H1 → TyX K H1 x (.type t)) (hk : kitB t T = some b) : RC (rIsi K) [x, .ty T] H (.bl b) := fun H1 e Q q =>
  ⟨x, .ty T, .type t, .type T, b, rfl, .ty T, ht H1 e, kit_ty hk, q H1 (Ex.refl H1)⟩
theorem rc_isStr {z : Str} {T : String} {b : Bool} (hk : kitB "str" T = some b) : RC (rIsi K) [.str z, .ty T] H (.bl b) := rc_isi (fun _ _ => .base (.str z)) hk
theorem rc_isInt {i : Int} {T : String} {b : Bool} (hk : kitB "int" T = some b) : RC (rIsi K) [.int i, .ty T] H (.bl b) := rc_isi (fun _ _ => .base (.int i)) hk
/-- len of a text -/
theorem rc_lenS {z : Str} (hz : z.length ≤ sizeLine) : RC (fun xs H Q => ∃ a, xs = [.str a] ∧ a.length ≤ sizeLine ∧ Q (.int (a.length : Nat)) H) [.str z] H (.int (z.length : Nat)) := fun H1 _ _ q => ⟨z, rfl, hz, q H1 (Ex.refl H1)⟩
theorem rv_inSign {c : Nat} {z : Str} : RV (fun x y H Q => ∃ (c : Nat) (z : Str), x = .str ⟨#[c]⟩ ∧ y = .str z ∧ Q (.bl (decide (c ∈ z.cps.toList))) H) (.str ⟨#[c]⟩) (.str z) H (.bl (decide (c ∈ z.cps.toList))) := fun H1 _ _ q => ⟨c, z, rfl, rfl, q H1 (Ex.refl H1)⟩
theorem rv_niSign {c : Nat} {z : Str} : RV (fun x y H Q => ∃ (c : Nat) (z : Str), x = .str ⟨#[c]⟩ ∧ y = .str z ∧ Q (.bl (!decide (c ∈ z.cps.toList))) H) (.str ⟨#[c]⟩) (.str z) H (.bl (!decide (c ∈ z.cps.toList))) := fun H1 _ _ q => ⟨c, z, rfl, rfl, q H1 (Ex.refl H1)⟩
/-- a comprehension over a text -/
theorem el_lcS {z : Str} {tl : TE} {j : Nat} {vs : List Nat} {t : TT} (f : Nat → Bool) (v : Nat → V) (h : Ev tl σ H (.str z)) (hz : z.cps.size ≤ 40000) (hw : ∀ x, wipe ((wipe σ vs).set j (some x)) vs = wipe σ vs)
    (ht : ∀ (i : Nat) (c : Nat) H1, Ex H H1 → z.cps[i]? = some c → EvT t ((wipe σ vs).set j (some (.str ⟨#[c]⟩))) H1 (f i)) (he : ∀ (i : Nat) (c : Nat) H1, Ex H H1 → z.cps[i]? = some c → f i = true → Ev te ((wipe σ vs).set j (some (.str ⟨#[c]⟩))) H1 (v i)) :
    EvL (tLc (iStr tl) (gName j) t te vs) σ H (given z.cps.size f v) := fun H0 e Q q => h H0 e _ fun H1 e1 => ⟨z, rfl, fun Dl hD =>
  lc_it walk_str (Cw H1 f v Dl) ⟨hD, Ex.new hD, upd_same⟩ (fun _ _ _ _ => trivial) (fun i x H' H2 hi p y => by
    obtain ⟨rfl, c, hc, rfl⟩ := y
    exact ⟨hw _, cw_turn p (by omega) (ht i c H1 (e.trans e1) hc) (fun hf => he i c H1 (e.trans e1) hc hf)⟩)
    (fun H' p => q Dl H' (fresh_back e1 p.1) (e1.trans p.2.1) p.2.2)⟩
/-- all of a new list of bools -/
theorem ev_all {bs : List Bool} (h : EvL te σ H (bs.map V.bl)) : Ev (tCB (rAll K) (tCons te tNil)) σ H (.bl (bs.all id)) := fun H1 e Q q =>
  h H1 e _ fun p H2 _ e2 hp => ⟨p, bs, rfl, sq_of hp, q H2 e2⟩
/-- given, no test -/
theorem given_all {n : Nat} {v : Nat → V} : given n (fun _ => true) v = (List.range n).map v := by
  unfold given
  rw [List.filter_eq_self.mpr (fun _ _ => rfl)]
theorem et_nil : EvT tYes σ H true := fun H1 _ _ q => q H1 (Ex.refl H1)
theorem range_map {α : Type} (xs : List α) (d : α) (v : α → V) : (List.range xs.length).map (fun i => v (xs.getD i d)) = xs.map v := by
  refine List.ext_getElem? fun i => ?_
  rw [List.getElem?_map, List.getElem?_map]
  by_cases hi : i < xs.length
  · rw [List.getElem?_range hi, List.getElem?_eq_getElem hi]
    show some (v (xs.getD i d)) = some (v xs[i])
    rw [List.getD_eq_getElem?_getD, List.getElem?_eq_getElem hi]
    rfl
  · rw [List.getElem?_eq_none (by rw [List.length_range]; omega), List.getElem?_eq_none (by omega)]
    rfl
/-- [e for c in text] -/
theorem el_lcSm {z : Str} {tl : TE} {j : Nat} {vs : List Nat} (v : Nat → V) (h : Ev tl σ H (.str z)) (hz : z.length ≤ 40000) (hw : ∀ x, wipe ((wipe σ vs).set j (some x)) vs = wipe σ vs)
    (he : ∀ (c : Nat) H1, Ex H H1 → c ∈ z.cps.toList → Ev te ((wipe σ vs).set j (some (.str ⟨#[c]⟩))) H1 (v c)) : EvL (tLc (iStr tl) (gName j) tYes te vs) σ H (z.cps.toList.map v) := by
  have g := el_lcS (te := te) (j := j) (vs := vs) (t := tYes) (fun _ => true) (fun i => v (z.cps.toList.getD i 0)) h hz hw (fun _ _ _ _ _ => et_nil) (fun i c H3 e hc _ => by
    have e1 : z.cps.toList.getD i 0 = c := by
      rw [List.getD_eq_getElem?_getD, Array.getElem?_toList, hc]
      rfl
    rw [e1]
    exact he c H3 e (by rw [List.mem_iff_getElem?]; exact ⟨i, by rw [Array.getElem?_toList, hc]⟩))
  rw [given_all] at g
  have e := range_map z.cps.toList 0 v
  rw [Array.length_toList] at e
  rw [e] at g
  exact g
/-- [e for x in list] -/
theorem el_lcLm {a : Addr} {xs : List V} {tl : TE} {j : Nat} {vs : List Nat} (v : V → V) (h : Ev tl σ H (.ref a)) (hx : SqL K H a xs) (hz : xs.length ≤ 40000) (hw : ∀ x, wipe ((wipe σ vs).set j (some x)) vs = wipe σ vs)
    (he : ∀ (x : V) H1, Ex H H1 → x ∈ xs → Ev te ((wipe σ vs).set j (some x)) H1 (v x)) : EvL (tLc (iList K tl) (gName j) tYes te vs) σ H (xs.map v) := by
  have g := el_lcL (K := K) (te := te) (j := j) (vs := vs) (t := tYes) (fun _ => true) (fun i => v (xs.getD i .non)) h hx hz hw (fun _ _ _ _ _ => et_nil) (fun i x H3 e hc _ => by
    have e1 : xs.getD i .non = x := by
      rw [List.getD_eq_getElem?_getD, hc]
      rfl
    rw [e1]
    exact he x H3 e (List.mem_iff_getElem?.mpr ⟨i, hc⟩))
  rw [given_all, range_map xs .non v] at g
  exact g
/-- [e for x in (a new list)] -/
theorem el_lcNLm {xs : List V} {tl : TE} {j : Nat} {vs : List Nat} (v : V → V) (h : EvL tl σ H xs) (hz : xs.length ≤ 40000) (hw : ∀ x, wipe ((wipe σ vs).set j (some x)) vs = wipe σ vs)
    (he : ∀ (x : V) H1, Ex H H1 → x ∈ xs → Ev te ((wipe σ vs).set j (some x)) H1 (v x)) : EvL (tLc (iList K tl) (gName j) tYes te vs) σ H (xs.map v) := by
  have g := el_lcNL (K := K) (te := te) (j := j) (vs := vs) (t := tYes) (fun _ => true) (fun i => v (xs.getD i .non)) h hz hw (fun _ _ _ _ _ => et_nil) (fun i x H3 e hc _ => by
    have e1 : xs.getD i .non = x := by
      rw [List.getD_eq_getElem?_getD, hc]
      rfl
    rw [e1]
    exact he x H3 e (List.mem_iff_getElem?.mpr ⟨i, hc⟩))
  rw [given_all, range_map xs .non v] at g
  exact g
/-- [e for k in range(n)] -/
theorem el_lcRm {tn : TA} {j : Nat} {vs : List Nat} {n : Int} (v : Nat → V) (h : EvA tn σ H [.int n]) (hn : 0 ≤ n ∧ n ≤ 40000) (hw : ∀ x, wipe ((wipe σ vs).set j (some x)) vs = wipe σ vs)
    (he : ∀ (i : Nat) H1, Ex H H1 → (i : Int) < n → Ev te ((wipe σ vs).set j (some (.int (i : Int)))) H1 (v i)) : EvL (tLc (iRng1 tn) (gName j) tYes te vs) σ H ((List.range n.toNat).map v) := by
  have g := el_lcR1 (te := te) (j := j) (vs := vs) (t := tYes) (fun _ => true) v h hn hw (fun _ _ _ _ => et_nil) (fun i H1 e hi _ => he i H1 e hi)
  rw [given_all] at g
  exact g
/-- a comprehension over a tuple -/
theorem el_lcT {a : Addr} {xs : List V} {tl : TE} {j : Nat} {vs : List Nat} {t : TT} (f : Nat → Bool) (v : Nat → V) (h : Ev tl σ H (.ref a)) (hx : SqT K H a xs) (hz : xs.length ≤ 40000) (hw : ∀ x, wipe ((wipe σ vs).set j (some x)) vs = wipe σ vs)
    (ht : ∀ (i : Nat) (x : V) H1, Ex H H1 → xs[i]? = some x → EvT t ((wipe σ vs).set j (some x)) H1 (f i)) (he : ∀ (i : Nat) (x : V) H1, Ex H H1 → xs[i]? = some x → f i = true → Ev te ((wipe σ vs).set j (some x)) H1 (v i)) :
    EvL (tLc (iTup K tl) (gName j) t te vs) σ H (given xs.length f v) := fun H0 e Q q => h H0 e _ fun H1 e1 => ⟨a, rfl, ⟨xs, ex_t (e.trans e1) hx⟩, fun Dl hD =>
  lc_tup (xs := xs) (Cw H1 f v Dl) ⟨hD, Ex.new hD, upd_same⟩ (fun i H' _ p => ex_t ((e.trans e1).trans p.2.1) hx) (fun i x H' hi p => ⟨hw x, cw_turn p (by have := (List.getElem?_eq_some_iff.mp hi).1; omega) (ht i x H1 (e.trans e1) hi) (fun hf => he i x H1 (e.trans e1) hi hf)⟩)
    (fun H' p => q Dl H' (fresh_back e1 p.1) (e1.trans p.2.1) p.2.2)⟩
theorem ev_fld {a C dx : Addr} {fs : List (Str × V)} {f : Str} {v : V} (h : Ev ta σ H (.ref a)) (hi : H a = some (.ins C dx fs)) (cl : Cls K C) (n : NoAttr K C f) (l : fs.lookup f = some v) : Ev (tFld K ta f) σ H v := fun H1 e Q q =>
  h H1 e _ fun H2 e2 => ⟨a, C, dx, fs, v, rfl, (e.trans e2) _ _ hi, cl, n, l, q H2 e2⟩
theorem ev_sum {ns : List Int} (h : EvL te σ H (ns.map V.int)) : Ev (tCB (rSum K) (tCons te tNil)) σ H (.int ns.sum) := fun H1 e Q q =>
  h H1 e _ fun p H2 _ e2 hp => ⟨p, ns, rfl, sq_of hp, q H2 e2⟩
theorem ev_maxD {ns : List Int} {d : Int} (h : EvL te σ H (ns.map V.int)) : Ev (tCKw (FsR.rMaxD K) (tCons te tNil) (tCons (tC (.int d)) tNil)) σ H (.int (FsR.maxDef d ns)) := fun H1 e Q q =>
  h H1 e _ fun p H2 _ e2 hp => ⟨p, ns, d, rfl, rfl, sq_of hp, q H2 e2⟩
theorem ev_lenT {a : Addr} {xs : List V} (h : Ev ta σ H (.ref a)) (hx : SqT K H a xs) : Ev (tCB (fun xs H Q => ∃ p ys, xs = [V.ref p] ∧ (SqL K H p ys ∨ SqT K H p ys) ∧ Q (.int ys.length) H) (tCons ta tNil)) σ H (.int (xs.length : Int)) := fun H1 e Q q =>
  h H1 e _ fun H2 e2 => ⟨a, xs, rfl, .inr (ex_t (e.trans e2) hx), q H2 e2⟩
theorem rc_isiOwn {C : Addr} {t : Value} {b : Bool} (ht : ∀ H1, Ex H H1 → TyX K H1 x t) (hk : PySem.W.kitOne K t (.ref C) = some b) : RC (rIsi K) [x, .ref C] H (.bl b) := fun H1 e Q q =>
  ⟨x, .ref C, t, .ref C, b, rfl, .own C, ht H1 e, hk, q H1 (Ex.refl H1)⟩
theorem range_ys {xs ys : List V} (hl : ys.length = xs.length) : (List.range xs.length).map (fun i => ys.getD i .non) = ys := by
  have e := range_map ys .non (fun y => y)
  rw [List.map_id', hl] at e
  exact e
/-- comprehensions, the result told by its items -/
theorem el_lcNLy {xs ys : List V} {tl : TE} {j : Nat} {vs : List Nat} (h : EvL tl σ H xs) (hz : xs.length ≤ 40000) (hw : ∀ x, wipe ((wipe σ vs).set j (some x)) vs = wipe σ vs) (hl : ys.length = xs.length)
    (he : ∀ (i : Nat) (x y : V) H1, Ex H H1 → xs[i]? = some x → ys[i]? = some y → Ev te ((wipe σ vs).set j (some x)) H1 y) : EvL (tLc (iList K tl) (gName j) tYes te vs) σ H ys := by
  have g := el_lcNL (K := K) (te := te) (j := j) (vs := vs) (t := tYes) (fun _ => true) (fun i => ys.getD i .non) h hz hw (fun _ _ _ _ _ => et_nil) (fun i x H3 e hc _ => by
    have hi := (List.getElem?_eq_some_iff.mp hc).1
    have hy : ys[i]? = some (ys.getD i .non) := by rw [List.getD_eq_getElem?_getD, List.getElem?_eq_getElem (by omega)]; rfl
    exact he i x _ H3 e hc hy)
  rw [given_all, range_ys hl] at g
  exact g
theorem el_lcLy {a : Addr} {xs ys : List V} {tl : TE} {j : Nat} {vs : List Nat} (h : Ev tl σ H (.ref a)) (hx : SqL K H a xs) (hz : xs.length ≤ 40000) (hw : ∀ x, wipe ((wipe σ vs).set j (some x)) vs = wipe σ vs) (hl : ys.length = xs.length)
    (he : ∀ (i : Nat) (x y : V) H1, Ex H H1 → xs[i]? = some x → ys[i]? = some y → Ev te ((wipe σ vs).set j (some x)) H1 y) : EvL (tLc (iList K tl) (gName j) tYes te vs) σ H ys := by
  have g := el_lcL (K := K) (te := te) (j := j) (vs := vs) (t := tYes) (fun _ => true) (fun i => ys.getD i .non) h hx hz hw (fun _ _ _ _ _ => et_nil) (fun i x H3 e hc _ => by
    have hi := (List.getElem?_eq_some_iff.mp hc).1
    have hy : ys[i]? = some (ys.getD i .non) := by rw [List.getD_eq_getElem?_getD, List.getElem?_eq_getElem (by omega)]; rfl
    exact he i x _ H3 e hc hy)
  rw [given_all, range_ys hl] at g
  exact g
theorem el_lcTy {a : Addr} {xs ys : List V} {tl : TE} {j : Nat} {vs : List Nat} (h : Ev tl σ H (.ref a)) (hx : SqT K H a xs) (hz : xs.length ≤ 40000) (hw : ∀ x, wipe ((wipe σ vs).set j (some x)) vs = wipe σ vs) (hl : ys.length = xs.length)
    (he : ∀ (i : Nat) (x y : V) H1, Ex H H1 → xs[i]? = some x → ys[i]? = some y → Ev te ((wipe σ vs).set j (some x)) H1 y) : EvL (tLc (iTup K tl) (gName j) tYes te vs) σ H ys := by
  have g := el_lcT (K := K) (te := te) (j := j) (vs := vs) (t := tYes) (fun _ => true) (fun i => ys.getD i .non) h hx hz hw (fun _ _ _ _ _ => et_nil) (fun i x H3 e hc _ => by
    have hi := (List.getElem?_eq_some_iff.mp hc).1
    have hy : ys[i]? = some (ys.getD i .non) := by rw [List.getD_eq_getElem?_getD, List.getElem?_eq_getElem (by omega)]; rfl
    exact he i x _ H3 e hc hy)
  rw [given_all, range_ys hl] at g
  exact g
end
end FsE

set_option Elab.async false
set_option linter.all false
set_option maxRecDepth 100000
set_option maxHeartbeats 2000000
/-! A staticmethod that is called off its class. -/
namespace FsR
open PySem PySem.Spec PyProof.Rows L2 ClX
structure SMet (K : PySem.W.Frag) (C : Addr) (mc : Value) (m : Str) (p g : Addr) : Prop where
  at_ : PySem.W.findCls K (.ref C) mc m = some (.get (.builtin "staticmethod.__get__") (.ref p) .none (.ref C))
  rc : ∃ rest, PySem.W.recIn K p "staticmethod" = some (.ref g :: rest)
  kp : PySem.W.keepIn K (.ref g) = true
section
variable {X : Cx} {pins : List (Addr × Obj)} {σ : L2.St} {H : Hp} {s : Shared} {C p g : Addr} {mc : Value} {m : Str} {A : Around} {E : Value → Shared → Prop}
theorem getmethsm_ok {pl : Sem Bool} {Q : Value × List Value → Shared → Prop} (I : Inv X pins σ H s) (r : CRead X.K C mc) (k : SMet X.K C mc m p g)
    (h : ∀ s', Inv X pins σ H s' → Q (.ref g, []) s') : wpAny (model X.prog X.w) A (getMethod (.ref C) m pl) Q E s := by
  obtain ⟨rest, hp⟩ := k.rc
  exact PySem.W.method_cls I.kIn r.ga (PySem.W.cls_bind I.kIn r.rd k.at_ (wpAny_call (PySem.W.sm_get (s := { s with toks := s.toks + 1 }) I.kIn hp (PySem.W.handed_on rfl (h _ (I.tok _))))))
end
/-- C.m(..), e the class at C, m a staticmethod; E: what is wanted of what it raises, at the slots -/
def tStat (C : Addr) (sp : Sp) (E : L2.St → XK) (ta : TE) (t : TA) : TE := fun σ H Q => ta σ H fun x H1 => x = .ref C ∧ t σ H1 fun vs H2 => sp vs H2 Q (E σ)
theorem passesAt_of {CX : CXT} {X : Cx} {E : XK} (h : Passes CX X E) (σ : L2.St) : PassesAt CX X σ E := fun pins H s e s' I c => h pins σ H s e s' I c
section
variable {X : Cx} {CX : CXT} {k : Nat} {C p g : Addr} {mc : Value} {fd : FuncData} {ps : List Str} {sp : Sp} {E : L2.St → XK} {o e : Expr} {es : List Expr} {m : Str} {pos apos : Pos} {ta : TE} {t : TA} {pl : Sem Bool}
theorem pe_stat (he : PE X o ta) (r : CRead X.K C mc) (c : SMet X.K C mc m p g) (F : FnOk X.prog X.w X.K X.mg X.base CX k g fd ps sp) (hr : Room k X.A) (hb : Binds X.K fd ps []) (hx : ∀ σ, PassesAt CX X σ (E σ)) (ha : PA X (e :: es) t)
    (hst : starEach (e :: es) X.env = (false, eval e X.env) :: starEach es X.env := by rfl) (hpl : (backTo pos (starEach es X.env)).any (·.1) = false := by rfl)
    (ht : eval (.Call (.Attribute o m apos) (e :: es) [] pos) X.env = (do
      let ov ← eval o X.env
      standAt apos.atName
      let (f, first) ← holding [ov] (getMethod ov m pl)
      callWith pos f first (backTo pos (starEach (e :: es) X.env)) (backToKw pos (keywordEach [] X.env))) := by rfl) :
    PE X (.Call (.Attribute o m apos) (e :: es) [] pos) (tStat C sp E ta t) := by
  refine ⟨fun pins s σ H Q I h => ?_⟩
  refine PySem.W.methodCall_KW (pl := pl) (thn (he.run pins s σ H _ I h) fun u s1 ⟨x, H1, I1, rx, ex, q⟩ => ?_) ht
  subst ex
  obtain rfl : u = Value.ref C := rx
  refine getmethsm_ok I1 r c fun s2 I2 => ?_
  refine PySem.W.callWith_K (first := []) (h₀ := X.base) I.ok.mod.kin c.kp (thn (ha.run pos pins s2 σ H1 _ I2 q) fun us s3 ⟨vs, H2, I3, rv, q2⟩ => ⟨I3.kIn, ?_⟩) hst hpl
  exact run_fnS F hr hb (hx σ) I3 rv q2
theorem pe_stat0 (he : PE X o ta) (r : CRead X.K C mc) (c : SMet X.K C mc m p g) (F : FnOk X.prog X.w X.K X.mg X.base CX k g fd ps sp) (hr : Room k X.A) (hb : Binds X.K fd ps []) (hx : ∀ σ, PassesAt CX X σ (E σ))
    (ht : eval (.Call (.Attribute o m apos) [] [] pos) X.env = (do
      let ov ← eval o X.env
      standAt apos.atName
      let (f, first) ← holding [ov] (getMethod ov m pl)
      callWith pos f first (backTo pos (starEach [] X.env)) (backToKw pos (keywordEach [] X.env))) := by rfl) :
    PE X (.Call (.Attribute o m apos) [] [] pos) (tStat C sp E ta tNil) := by
  refine ⟨fun pins s σ H Q I h => ?_⟩
  refine PySem.W.methodCall_KW (pl := pl) (thn (he.run pins s σ H _ I h) fun u s1 ⟨x, H1, I1, rx, ex, q⟩ => ?_) ht
  subst ex
  obtain rfl : u = Value.ref C := rx
  refine getmethsm_ok I1 r c fun s2 I2 => ?_
  exact PySem.W.callWith_K0 (first := []) I2.kIn c.kp (run_fnS (us := []) (vs := []) F hr hb (hx σ) I2 .nil q)
end
end FsR

set_option Elab.async false
set_option linter.all false
set_option maxRecDepth 100000
set_option maxHeartbeats 2000000
namespace FsC
open PySem L2 Evl ClX FsR
/-- a def of the module that may be called by its name -/
structure CalX (P : Program) (w : World) (K : PySem.W.Frag) (mg : Str → Option Value) (base : Heap) (CX : CXT) (k : Nat) (x : Str) (sp : Sp) : Prop where
  ex : ∃ (f : Addr) (fd : FuncData) (ps : List Str), FnOk P w K mg base CX k f fd ps sp ∧ mg x = some (.ref f) ∧ PySem.W.keepIn K (.ref f) = true ∧ Binds K fd ps []
/-- C.m, a staticmethod of the class at C -/
structure StaX (P : Program) (w : World) (K : PySem.W.Frag) (mg : Str → Option Value) (base : Heap) (CX : CXT) (k : Nat) (C : Addr) (m : Str) (sp : Sp) : Prop where
  ex : ∃ (p f : Addr) (mc : Value) (fd : FuncData) (ps : List Str), CRead K C mc ∧ SMet K C mc m p f ∧ FnOk P w K mg base CX k f fd ps sp ∧ Binds K fd ps []
/-- C(..): a class that is made by its name -/
structure MakX (P : Program) (w : World) (K : PySem.W.Frag) (mg : Str → Option Value) (base : Heap) (CX : CXT) (k : Nat) (x : Str) (C : Addr) (sp : Sp) : Prop where
  ex : ∃ (f : Addr) (fd : FuncData) (ps : List Str), Mk K C f ∧ FnOk P w K mg base CX k f fd ps sp ∧ mg x = some (.ref C) ∧ Binds K fd ps []
section
variable {X : Cx} {CX : CXT} {k j : Nat} {C : Addr} {x m : Str} {sp : Sp} {E : L2.St → XK} {p pos apos : Pos} {e o : Expr} {es : List Expr} {ta : TE} {t : TA}
theorem pe_cx (c : CalX X.prog X.w X.K X.mg X.base CX k x sp) (hr : Room j X.A) (hk : k ≤ j) (hg : Gl X x) (hx : ∀ σ, PassesAt CX X σ (E σ)) (ha : PA X (e :: es) t)
    (hdb : (x == ("__debug__" : Str)) = false := by decide) (he : starEach (e :: es) X.env = (false, eval e X.env) :: starEach es X.env := by rfl) (hpl : (backTo pos (starEach es X.env)).any (·.1) = false := by rfl) :
    PE X (.Call (.Name x p) (e :: es) [] pos) (tCallS sp E t) := by
  obtain ⟨f, fd, ps, F, hm, kp, b⟩ := c.ex
  exact pe_callS F (hr.mono hk) hg hm kp b hx ha hdb he hpl
theorem pe_sx {pl : Sem Bool} (c : StaX X.prog X.w X.K X.mg X.base CX k C m sp) (hr : Room j X.A) (hk : k ≤ j) (ho : PE X o ta) (hx : ∀ σ, PassesAt CX X σ (E σ)) (ha : PA X (e :: es) t)
    (hst : starEach (e :: es) X.env = (false, eval e X.env) :: starEach es X.env := by rfl) (hpl : (backTo pos (starEach es X.env)).any (·.1) = false := by rfl)
    (ht : eval (.Call (.Attribute o m apos) (e :: es) [] pos) X.env = (do
      let ov ← eval o X.env
      standAt apos.atName
      let (f, first) ← holding [ov] (getMethod ov m pl)
      callWith pos f first (backTo pos (starEach (e :: es) X.env)) (backToKw pos (keywordEach [] X.env))) := by rfl) :
    PE X (.Call (.Attribute o m apos) (e :: es) [] pos) (tStat C sp E ta t) := by
  obtain ⟨p, f, mc, fd, ps, r, s, F, b⟩ := c.ex
  exact pe_stat (pl := pl) ho r s F (hr.mono hk) b hx ha hst hpl ht
theorem pe_sx0 {pl : Sem Bool} (c : StaX X.prog X.w X.K X.mg X.base CX k C m sp) (hr : Room j X.A) (hk : k ≤ j) (ho : PE X o ta) (hx : ∀ σ, PassesAt CX X σ (E σ))
    (ht : eval (.Call (.Attribute o m apos) [] [] pos) X.env = (do
      let ov ← eval o X.env
      standAt apos.atName
      let (f, first) ← holding [ov] (getMethod ov m pl)
      callWith pos f first (backTo pos (starEach [] X.env)) (backToKw pos (keywordEach [] X.env))) := by rfl) :
    PE X (.Call (.Attribute o m apos) [] [] pos) (tStat C sp E ta tNil) := by
  obtain ⟨p, f, mc, fd, ps, r, s, F, b⟩ := c.ex
  exact pe_stat0 (pl := pl) ho r s F (hr.mono hk) b hx ht
theorem pe_mx {E : XK} (c : MakX X.prog X.w X.K X.mg X.base CX k x C sp) (hr : Room j X.A) (hk : k + 1 ≤ j) (hg : Gl X x) (hx : Passes CX X E) (ha : PA X (e :: es) t)
    (hdb : (x == ("__debug__" : Str)) = false := by decide) (he : starEach (e :: es) X.env = (false, eval e X.env) :: starEach es X.env := by rfl) (hpl : (backTo pos (starEach es X.env)).any (·.1) = false := by rfl) :
    PE X (.Call (.Name x p) (e :: es) [] pos) (tMake C sp [] E t) := by
  obtain ⟨f, fd, ps, M, F, hm, b⟩ := c.ex
  exact pe_make M F (hr.mono hk) hg hm b .nil hx ha hdb he hpl
theorem at0 {X : Cx} {E : L2.St → XK} : ∀ σ, PassesAt CX0 X σ (E σ) := fun _ _ _ _ _ _ _ h => h.elim
/-- what a call within a def that may raise lets out -/
theorem atX {P : Program} {w : World} {X : Cx} {E : XK} (h : Passes (L2.CX P w) X E) : ∀ σ, PassesAt (L2.CX P w) X σ ((fun _ => E) σ) := fun σ => passesAt_of h σ
end
section
variable {σ : L2.St} {H : Hp} {z : V} {sp : Sp} {ta : TA} {vs : List V} {E : L2.St → XK}
theorem ev_cx (h : EvA ta σ H vs) (hs : SpV sp vs H z) : Ev (tCallS sp E ta) σ H z := fun H1 e Q q =>
  h H1 e _ fun H2 e2 => hs H2 (e.trans e2) Q (fun H3 e3 => q H3 (e2.trans e3)) (E σ)
theorem ev_sx {C : Addr} {to : TE} (ho : Ev to σ H (.ref C)) (h : EvA ta σ H vs) (hs : SpV sp vs H z) : Ev (tStat C sp E to ta) σ H z := fun H1 e Q q =>
  ho H1 e _ fun H2 e2 => ⟨rfl, h H2 (e.trans e2) _ fun H3 e3 => hs H3 ((e.trans e2).trans e3) Q (fun H4 e4 => q H4 ((e2.trans e3).trans e4)) (E σ)⟩
theorem el_cx {xs : List V} (h : EvA ta σ H vs) (hs : SpL sp vs H xs) : EvL (tCallS sp E ta) σ H xs := fun H1 e Q q =>
  h H1 e _ fun H2 e2 => hs H2 (e.trans e2) Q (fun p H3 hp e3 h3 => q p H3 (fresh_back e2 hp) (e2.trans e3) h3) (E σ)
end
end FsC

set_option Elab.async false
set_option linter.all false
set_option maxRecDepth 100000
set_option maxHeartbeats 2000000
namespace Fs
open PySem L2 Evl
/-! ### operands, processes, offers -/
inductive Opd where
  | int (i : Int)
  | nm (z : Str)
def Opd.v : Opd → V
  | .int i => .int i
  | .nm z => .str z
mutual
inductive Pr where
  | choice (os : Ofs)
  | new (n : Str) (k : Int) (r : Pr)
  | cond (l r : Opd) (y n : Pr)
  | call (n : Str) (ops : List Opd)
inductive Ofs where
  | nil
  | cons (c : Str) (seat seats : Int) (op : Opd) (names : List Str) (rest : Pr) (os : Ofs)
end
mutual
def Pr.depth : Pr → Int
  | .choice os => 1 + os.depth
  | .new _ _ r => 1 + r.depth
  | .cond _ _ y n => 1 + max y.depth n.depth
  | .call _ _ => 1
def Ofs.depth : Ofs → Int
  | .nil => 0
  | .cons _ _ _ _ _ r os => max r.depth os.depth
end
def Ofs.len : Ofs → Nat
  | .nil => 0
  | .cons _ _ _ _ _ _ os => os.len + 1
mutual
def Pr.size : Pr → Int
  | .choice os => max 1 (os.len : Int) + os.sum
  | .new _ _ r => 1 + r.size
  | .cond _ _ y n => 1 + (y.size + n.size)
  | .call _ _ => 1
def Ofs.sum : Ofs → Int
  | .nil => 0
  | .cons _ _ _ _ _ r os => r.size + os.sum
end
def Pr.kind : Pr → Str
  | .choice _ => "choice"
  | .new _ _ _ => "new"
  | .cond _ _ _ _ => "if"
  | .call _ _ => "call"
/-- the attributes, in the order in which __init__ stores them -/
def pFlds (k : Str) (t : Addr) (d z : Int) : List (Str × V) := putF "size" (.int z) (putF "depth" (.int d) (putF "parts" (.ref t) (putF "kind" (.str k) [])))
theorem n1 : ¬ (("kind" : Str) = "parts") := by decide +kernel
theorem n2 : ¬ (("kind" : Str) = "depth") := by decide +kernel
theorem n3 : ¬ (("kind" : Str) = "size") := by decide +kernel
theorem n4 : ¬ (("parts" : Str) = "depth") := by decide +kernel
theorem n5 : ¬ (("parts" : Str) = "size") := by decide +kernel
theorem n6 : ¬ (("depth" : Str) = "size") := by decide +kernel
theorem pf_kind {k : Str} {t : Addr} {d z : Int} : (pFlds k t d z).lookup ("kind" : Str) = some (.str k) := by
  unfold pFlds
  rw [lookup_putF, if_neg n3, lookup_putF, if_neg n2, lookup_putF, if_neg n1, lookup_putF, if_pos rfl]
theorem pf_parts {k : Str} {t : Addr} {d z : Int} : (pFlds k t d z).lookup ("parts" : Str) = some (.ref t) := by
  unfold pFlds
  rw [lookup_putF, if_neg n5, lookup_putF, if_neg n4, lookup_putF, if_pos rfl]
theorem pf_depth {k : Str} {t : Addr} {d z : Int} : (pFlds k t d z).lookup ("depth" : Str) = some (.int d) := by
  unfold pFlds
  rw [lookup_putF, if_neg n6, lookup_putF, if_pos rfl]
theorem pf_size {k : Str} {t : Addr} {d z : Int} : (pFlds k t d z).lookup ("size" : Str) = some (.int z) := by
  unfold pFlds
  rw [lookup_putF, if_pos rfl]
/-- an instance of the class at C with these parts -/
def InsAt (C : Addr) (H : Hp) (a : Addr) (k : Str) (t : Addr) (d z : Int) : Prop := ∃ dx, H a = some (.ins C dx (pFlds k t d z))
mutual
/-- at a stands the process p -/
def PrAt (C : Addr) (H : Hp) (a : Addr) : Pr → Prop
  | .choice os => ∃ t ps, InsAt C H a "choice" t (1 + os.depth) (max 1 (os.len : Int) + os.sum) ∧ H t = some (.tup ps) ∧ OfsAt C H ps os
  | .new n k r => ∃ t b, InsAt C H a "new" t (1 + r.depth) (1 + r.size) ∧ H t = some (.tup [.str n, .int k, .ref b]) ∧ PrAt C H b r
  | .cond l r y n => ∃ t b c, InsAt C H a "if" t (1 + max y.depth n.depth) (1 + (y.size + n.size)) ∧ H t = some (.tup [l.v, r.v, .ref b, .ref c]) ∧ PrAt C H b y ∧ PrAt C H c n
  | .call n ops => ∃ t u, InsAt C H a "call" t 1 1 ∧ H t = some (.tup [.str n, .ref u]) ∧ H u = some (.tup (ops.map Opd.v))
def OfsAt (C : Addr) (H : Hp) (ps : List V) : Ofs → Prop
  | .nil => ps = []
  | .cons c s m op ns r os => ∃ o u b qs, ps = .ref o :: qs ∧ H o = some (.tup [.str c, .int s, .int m, op.v, .ref u, .ref b]) ∧ H u = some (.tup (ns.map V.str)) ∧ PrAt C H b r ∧ OfsAt C H qs os
end
theorem InsAt.ex {C : Addr} {H H' : Hp} {a : Addr} {k : Str} {t : Addr} {d z : Int} (e : Ex H H') (h : InsAt C H a k t d z) : InsAt C H' a k t d z := by
  obtain ⟨dx, h⟩ := h
  exact ⟨dx, e _ _ h⟩
mutual
theorem PrAt.ex {C : Addr} {H H' : Hp} (e : Ex H H') : ∀ {p : Pr} {a : Addr}, PrAt C H a p → PrAt C H' a p
  | .choice os, a, h => by
    unfold PrAt at h ⊢
    obtain ⟨t, ps, h1, h2, h3⟩ := h
    exact ⟨t, ps, h1.ex e, e _ _ h2, OfsAt.ex e h3⟩
  | .new n k r, a, h => by
    unfold PrAt at h ⊢
    obtain ⟨t, b, h1, h2, h3⟩ := h
    exact ⟨t, b, h1.ex e, e _ _ h2, PrAt.ex e h3⟩
  | .cond l r y n, a, h => by
    unfold PrAt at h ⊢
    obtain ⟨t, b, c, h1, h2, h3, h4⟩ := h
    exact ⟨t, b, c, h1.ex e, e _ _ h2, PrAt.ex e h3, PrAt.ex e h4⟩
  | .call n ops, a, h => by
    unfold PrAt at h ⊢
    obtain ⟨t, u, h1, h2, h3⟩ := h
    exact ⟨t, u, h1.ex e, e _ _ h2, e _ _ h3⟩
theorem OfsAt.ex {C : Addr} {H H' : Hp} (e : Ex H H') : ∀ {os : Ofs} {ps : List V}, OfsAt C H ps os → OfsAt C H' ps os
  | .nil, ps, h => by
    unfold OfsAt at h ⊢
    exact h
  | .cons c s m op ns r os, ps, h => by
    unfold OfsAt at h ⊢
    obtain ⟨o, u, b, qs, h1, h2, h3, h4, h5⟩ := h
    exact ⟨o, u, b, qs, h1, e _ _ h2, e _ _ h3, PrAt.ex e h4, OfsAt.ex e h5⟩
end
/-- whatever the process: its instance -/
theorem PrAt.ins {C : Addr} {H : Hp} {p : Pr} {a : Addr} (h : PrAt C H a p) : ∃ t ps, InsAt C H a p.kind t p.depth p.size ∧ H t = some (.tup ps) := by
  cases p with
  | choice os =>
    unfold PrAt at h
    obtain ⟨t, ps, h1, h2, _⟩ := h
    exact ⟨t, ps, by unfold Pr.kind Pr.depth Pr.size; exact h1, h2⟩
  | new n k r =>
    unfold PrAt at h
    obtain ⟨t, b, h1, h2, _⟩ := h
    exact ⟨t, _, by unfold Pr.kind Pr.depth Pr.size; exact h1, h2⟩
  | cond l r y n =>
    unfold PrAt at h
    obtain ⟨t, b, c, h1, h2, _⟩ := h
    exact ⟨t, _, by unfold Pr.kind Pr.depth Pr.size; exact h1, h2⟩
  | call n ops =>
    unfold PrAt at h
    obtain ⟨t, u, h1, h2, _⟩ := h
    exact ⟨t, _, by unfold Pr.kind Pr.depth Pr.size; exact h1, h2⟩
end Fs

set_option Elab.async false
set_option linter.all false
set_option maxRecDepth 100000
set_option maxHeartbeats 2000000
namespace Fs
open PySem L2 Evl FsE FsC FsR
/-- the parts of a process, as its tuple holds them -/
def PartsAt (C : Addr) (H : Hp) (ps : List V) : Pr → Prop
  | .choice os => OfsAt C H ps os
  | .new n k r => ∃ b, ps = [.str n, .int k, .ref b] ∧ PrAt C H b r
  | .cond l r y n => ∃ b c, ps = [l.v, r.v, .ref b, .ref c] ∧ PrAt C H b y ∧ PrAt C H c n
  | .call n ops => ∃ u, ps = [.str n, .ref u] ∧ H u = some (.tup (ops.map Opd.v))
theorem PartsAt.ex {C : Addr} {H H' : Hp} {ps : List V} {p : Pr} (e : Ex H H') (h : PartsAt C H ps p) : PartsAt C H' ps p := by
  cases p with
  | choice os => exact OfsAt.ex e h
  | new n k r =>
    obtain ⟨b, h1, h2⟩ := h
    exact ⟨b, h1, h2.ex e⟩
  | cond l r y n =>
    obtain ⟨b, c, h1, h2, h3⟩ := h
    exact ⟨b, c, h1, h2.ex e, h3.ex e⟩
  | call n ops =>
    obtain ⟨u, h1, h2⟩ := h
    exact ⟨u, h1, e _ _ h2⟩
theorem PrAt.mk {C : Addr} {H : Hp} {a t : Addr} {ps : List V} {p : Pr} (h1 : InsAt C H a p.kind t p.depth p.size) (h2 : H t = some (.tup ps)) (h3 : PartsAt C H ps p) : PrAt C H a p := by
  cases p with
  | choice os =>
    unfold PrAt
    unfold Pr.kind Pr.depth Pr.size at h1
    exact ⟨t, ps, h1, h2, h3⟩
  | new n k r =>
    unfold PrAt
    unfold Pr.kind Pr.depth Pr.size at h1
    obtain ⟨b, rfl, h4⟩ := h3
    exact ⟨t, b, h1, h2, h4⟩
  | cond l r y n =>
    unfold PrAt
    unfold Pr.kind Pr.depth Pr.size at h1
    obtain ⟨b, c, rfl, h4, h5⟩ := h3
    exact ⟨t, b, c, h1, h2, h4, h5⟩
  | call n ops =>
    unfold PrAt
    unfold Pr.kind Pr.depth Pr.size at h1
    obtain ⟨u, rfl, h4⟩ := h3
    exact ⟨t, u, h1, h2, h4⟩
theorem PrAt.out {C : Addr} {H : Hp} {a : Addr} {p : Pr} (h : PrAt C H a p) : ∃ t ps, InsAt C H a p.kind t p.depth p.size ∧ H t = some (.tup ps) ∧ PartsAt C H ps p := by
  cases p with
  | choice os =>
    unfold PrAt at h
    obtain ⟨t, ps, h1, h2, h3⟩ := h
    exact ⟨t, ps, by unfold Pr.kind Pr.depth Pr.size; exact h1, h2, h3⟩
  | new n k r =>
    unfold PrAt at h
    obtain ⟨t, b, h1, h2, h3⟩ := h
    exact ⟨t, _, by unfold Pr.kind Pr.depth Pr.size; exact h1, h2, b, rfl, h3⟩
  | cond l r y n =>
    unfold PrAt at h
    obtain ⟨t, b, c, h1, h2, h3, h4⟩ := h
    exact ⟨t, _, by unfold Pr.kind Pr.depth Pr.size; exact h1, h2, b, c, rfl, h3, h4⟩
  | call n ops =>
    unfold PrAt at h
    obtain ⟨t, u, h1, h2, h3⟩ := h
    exact ⟨t, _, by unfold Pr.kind Pr.depth Pr.size; exact h1, h2, u, rfl, h3⟩
/-! ### what is contained directly -/
def Ofs.rests : Ofs → List Pr
  | .nil => []
  | .cons _ _ _ _ _ r os => r :: os.rests
def Pr.inner : Pr → List Pr
  | .choice os => os.rests
  | .new _ _ r => [r]
  | .cond _ _ y n => [y, n]
  | .call _ _ => []
/-- a list of processes, by their addresses -/
def InnAt (C : Addr) (H : Hp) : List V → List Pr → Prop
  | [], [] => True
  | x :: xs, p :: ps => (∃ a, x = .ref a ∧ PrAt C H a p) ∧ InnAt C H xs ps
  | _, _ => False
theorem InnAt.ex {C : Addr} {H H' : Hp} (e : Ex H H') : ∀ {xs : List V} {ps : List Pr}, InnAt C H xs ps → InnAt C H' xs ps
  | [], [], _ => True.intro
  | x :: xs, p :: ps, ⟨⟨a, h1, h2⟩, h3⟩ => ⟨⟨a, h1, h2.ex e⟩, InnAt.ex e h3⟩
  | [], _ :: _, h => h.elim
  | _ :: _, [], h => h.elim
theorem InnAt.get {C : Addr} {H : Hp} : ∀ {xs : List V} {ps : List Pr} {x : V}, InnAt C H xs ps → x ∈ xs → ∃ a p, x = .ref a ∧ PrAt C H a p ∧ p ∈ ps
  | [], _, _, _, hx => nomatch hx
  | y :: xs, [], _, h, _ => h.elim
  | y :: xs, p :: ps, x, ⟨⟨a, h1, h2⟩, h3⟩, hx => by
    rcases List.mem_cons.mp hx with rfl | hx
    · exact ⟨a, p, h1, h2, List.mem_cons_self⟩
    · obtain ⟨b, q, k1, k2, k3⟩ := InnAt.get h3 hx
      exact ⟨b, q, k1, k2, List.mem_cons_of_mem _ k3⟩
theorem InnAt.length {C : Addr} {H : Hp} : ∀ {xs : List V} {ps : List Pr}, InnAt C H xs ps → xs.length = ps.length
  | [], [], _ => rfl
  | x :: xs, p :: ps, ⟨_, h⟩ => congrArg (· + 1) (InnAt.length h)
  | [], _ :: _, h => h.elim
  | _ :: _, [], h => h.elim
theorem Ofs.rests_len : ∀ os : Ofs, os.rests.length = os.len
  | .nil => rfl
  | .cons _ _ _ _ _ r os => congrArg (· + 1) (Ofs.rests_len os)
/-- the greatest depth, the sum of the sizes -/
theorem Ofs.sum_eq : ∀ os : Ofs, os.sum = (os.rests.map Pr.size).sum
  | .nil => rfl
  | .cons _ _ _ _ _ r os => by
    unfold Ofs.sum Ofs.rests
    rw [List.map_cons, List.sum_cons, Ofs.sum_eq os]
mutual
theorem Pr.depth_pos : ∀ p : Pr, 1 ≤ p.depth
  | .choice os => by
    unfold Pr.depth
    have := Ofs.depth_nn os
    omega
  | .new _ _ r => by
    unfold Pr.depth
    have := Pr.depth_pos r
    omega
  | .cond _ _ y n => by
    unfold Pr.depth
    have := Pr.depth_pos y
    have := Pr.depth_pos n
    omega
  | .call _ _ => by
    unfold Pr.depth
    omega
theorem Ofs.depth_nn : ∀ os : Ofs, 0 ≤ os.depth
  | .nil => by
    unfold Ofs.depth
    omega
  | .cons _ _ _ _ _ r os => by
    unfold Ofs.depth
    have := Pr.depth_pos r
    omega
end
theorem maxFrom_ge : ∀ (ys : List Int) (y : Int), maxFrom y ys = max y (maxFrom 0 ys) ∨ (y < 0)
  | [], y => by
    unfold maxFrom
    simp only [List.foldl_nil]
    omega
  | z :: zs, y => by
    have h1 := maxFrom_ge zs (max y z)
    have h2 := maxFrom_ge zs (max 0 z)
    unfold maxFrom at *
    simp only [List.foldl_cons]
    omega
theorem Ofs.depth_eq : ∀ os : Ofs, maxDef 0 (os.rests.map Pr.depth) = os.depth
  | .nil => rfl
  | .cons _ _ _ _ _ r os => by
    unfold Ofs.rests Ofs.depth
    rw [List.map_cons]
    show maxFrom r.depth (os.rests.map Pr.depth) = max r.depth os.depth
    have ih := Ofs.depth_eq os
    have hr := Pr.depth_pos r
    cases hr2 : os.rests.map Pr.depth with
    | nil =>
      rw [hr2] at ih
      have e0 : (0 : Int) = os.depth := ih
      unfold maxFrom
      simp only [List.foldl_nil]
      omega
    | cons y ys =>
      rw [hr2] at ih
      have e0 : maxFrom y ys = os.depth := ih
      have hy : 1 ≤ y := by
        have : y ∈ os.rests.map Pr.depth := by rw [hr2]; exact List.mem_cons_self
        obtain ⟨q, _, rfl⟩ := List.mem_map.mp this
        exact Pr.depth_pos q
      have h1 := maxFrom_ge ys y
      have h2 := maxFrom_ge ys (max r.depth y)
      show maxFrom (max r.depth y) ys = _
      omega
theorem Pr.depth_eq (p : Pr) : 1 + maxDef 0 (p.inner.map Pr.depth) = p.depth := by
  cases p with
  | choice os =>
    unfold Pr.inner Pr.depth
    rw [Ofs.depth_eq]
  | new n k r =>
    unfold Pr.depth
    rfl
  | cond l r y n =>
    unfold Pr.depth
    rfl
  | call n ops =>
    unfold Pr.depth
    rfl
def Pr.own : Pr → Int
  | .choice os => max 1 (os.len : Int)
  | _ => 1
theorem Pr.size_eq (p : Pr) : p.own + (p.inner.map Pr.size).sum = p.size := by
  cases p with
  | choice os =>
    unfold Pr.inner Pr.size Pr.own
    rw [Ofs.sum_eq]
  | new n k r =>
    unfold Pr.size Pr.own Pr.inner
    simp
  | cond l r y n =>
    unfold Pr.size Pr.own Pr.inner
    simp
  | call n ops =>
    unfold Pr.size Pr.own Pr.inner
    simp
theorem OfsAt.len {C : Addr} {H : Hp} : ∀ {os : Ofs} {ps : List V}, OfsAt C H ps os → ps.length = os.len
  | .nil, ps, h => by
    unfold OfsAt at h
    rw [h]
    rfl
  | .cons c s m op ns r os, ps, h => by
    unfold OfsAt at h
    obtain ⟨o, u, b, qs, h1, _, _, _, h5⟩ := h
    rw [h1]
    exact congrArg (· + 1) (OfsAt.len h5)
/-- the rests of the offers -/
theorem OfsAt.rests {C : Addr} {H : Hp} : ∀ {os : Ofs} {ps : List V}, OfsAt C H ps os → ∃ rs : List V, rs.length = ps.length ∧ InnAt C H rs os.rests ∧
    ∀ (i : Nat) (x : V), ps[i]? = some x → ∃ (o : Addr) (c : Str) (s m : Int) (op : Opd) (u : Addr) (y : V), x = .ref o ∧ rs[i]? = some y ∧ H o = some (.tup [.str c, .int s, .int m, op.v, .ref u, y])
  | .nil, ps, h => by
    unfold OfsAt at h
    subst h
    exact ⟨[], rfl, True.intro, fun i x hx => by simp at hx⟩
  | .cons c s m op ns r os, ps, h => by
    unfold OfsAt at h
    obtain ⟨o, u, b, qs, rfl, h2, h3, h4, h5⟩ := h
    obtain ⟨rs, k1, k2, k3⟩ := OfsAt.rests h5
    refine ⟨.ref b :: rs, congrArg (· + 1) k1, ⟨⟨b, rfl, h4⟩, k2⟩, fun i x hx => ?_⟩
    cases i with
    | zero =>
      have e : V.ref o = x := by simpa using hx
      subst e
      exact ⟨o, c, s, m, op, u, .ref b, rfl, rfl, h2⟩
    | succ i =>
      obtain ⟨o', c', s', m', op', u', y', z1, z2, z3⟩ := k3 i x (by simpa using hx)
      exact ⟨o', c', s', m', op', u', y', z1, by simpa using z2, z3⟩
/-- rs: what a process with these parts contains directly -/
def InnOf (C : Addr) (H : Hp) (ps rs : List V) : Pr → Prop
  | .choice os => rs.length = ps.length ∧ InnAt C H rs os.rests ∧
    ∀ (i : Nat) (x : V), ps[i]? = some x → ∃ (o : Addr) (c : Str) (s m : Int) (op : Opd) (u : Addr) (y : V), x = .ref o ∧ rs[i]? = some y ∧ H o = some (.tup [.str c, .int s, .int m, op.v, .ref u, y])
  | .new n k r => ∃ b, ps = [.str n, .int k, .ref b] ∧ rs = [.ref b] ∧ PrAt C H b r
  | .cond l r y n => ∃ b c, ps = [l.v, r.v, .ref b, .ref c] ∧ rs = [.ref b, .ref c] ∧ PrAt C H b y ∧ PrAt C H c n
  | .call n ops => ∃ u, ps = [.str n, .ref u] ∧ rs = [] ∧ H u = some (.tup (ops.map Opd.v))
theorem InnOf.ex {C : Addr} {H H' : Hp} {ps rs : List V} {p : Pr} (e : Ex H H') (h : InnOf C H ps rs p) : InnOf C H' ps rs p := by
  cases p with
  | choice os =>
    obtain ⟨h1, h2, h3⟩ := h
    refine ⟨h1, h2.ex e, fun i x hx => ?_⟩
    obtain ⟨o, c, s, m, op, u, y, z1, z2, z3⟩ := h3 i x hx
    exact ⟨o, c, s, m, op, u, y, z1, z2, e _ _ z3⟩
  | new n k r =>
    obtain ⟨b, h1, h2, h3⟩ := h
    exact ⟨b, h1, h2, h3.ex e⟩
  | cond l r y n =>
    obtain ⟨b, c, h1, h2, h3, h4⟩ := h
    exact ⟨b, c, h1, h2, h3.ex e, h4.ex e⟩
  | call n ops =>
    obtain ⟨u, h1, h2, h3⟩ := h
    exact ⟨u, h1, h2, e _ _ h3⟩
theorem PartsAt.inn {C : Addr} {H : Hp} {ps : List V} {p : Pr} (h : PartsAt C H ps p) : ∃ rs, InnOf C H ps rs p := by
  cases p with
  | choice os =>
    obtain ⟨rs, h1, h2, h3⟩ := OfsAt.rests h
    exact ⟨rs, h1, h2, h3⟩
  | new n k r =>
    obtain ⟨b, h1, h2⟩ := h
    exact ⟨[.ref b], b, h1, rfl, h2⟩
  | cond l r y n =>
    obtain ⟨b, c, h1, h2, h3⟩ := h
    exact ⟨[.ref b, .ref c], b, c, h1, rfl, h2, h3⟩
  | call n ops =>
    obtain ⟨u, h1, h2⟩ := h
    exact ⟨[], u, h1, rfl, h2⟩
theorem InnOf.at {C : Addr} {H : Hp} {ps rs : List V} {p : Pr} (h : InnOf C H ps rs p) : InnAt C H rs p.inner := by
  cases p with
  | choice os => exact h.2.1
  | new n k r =>
    obtain ⟨b, _, rfl, h3⟩ := h
    exact ⟨⟨b, rfl, h3⟩, True.intro⟩
  | cond l r y n =>
    obtain ⟨b, c, _, rfl, h3, h4⟩ := h
    exact ⟨⟨b, rfl, h3⟩, ⟨c, rfl, h4⟩, True.intro⟩
  | call n ops =>
    obtain ⟨u, _, rfl, _⟩ := h
    exact True.intro
theorem InnAt.at_ {C : Addr} {H : Hp} : ∀ {xs : List V} {ps : List Pr} {i : Nat} {x : V}, InnAt C H xs ps → xs[i]? = some x → ∃ a p, x = .ref a ∧ PrAt C H a p ∧ ps[i]? = some p
  | [], _, _, _, _, hx => by simp at hx
  | y :: xs, [], _, _, h, _ => h.elim
  | y :: xs, p :: ps, 0, x, ⟨⟨a, h1, h2⟩, h3⟩, hx => by
    have e : y = x := by simpa using hx
    subst e
    exact ⟨a, p, h1, h2, rfl⟩
  | y :: xs, p :: ps, i + 1, x, ⟨_, h3⟩, hx => by
    obtain ⟨b, q, k1, k2, k3⟩ := InnAt.at_ (i := i) h3 (by simpa using hx)
    exact ⟨b, q, k1, k2, by simpa using k3⟩
end Fs

set_option Elab.async false
set_option linter.all false
set_option maxRecDepth 100000
set_option maxHeartbeats 2000000
/-! Lists of things that stand in the heap; what a list's change leaves. -/
namespace FsK
open PySem PySem.Spec PyProof.Rows L2 Evl FsE FsC FsR Fs
/-- a list may change: what stands in objects and tuples stays -/
structure ExN (H H' : Hp) : Prop where
  ins : ∀ a C dx fs, H a = some (.ins C dx fs) → H' a = some (.ins C dx fs)
  tup : ∀ a xs, H a = some (.tup xs) → H' a = some (.tup xs)
theorem ExN.upd {H : Hp} {l : Addr} {xs ys : List V} (h : H l = some (.lst xs)) : ExN H (upd H l (.lst ys)) := ⟨fun a C dx fs ha => by
    rw [upd_ne (fun z => by rw [z, h] at ha; cases ha)]
    exact ha, fun a xs ha => by
    rw [upd_ne (fun z => by rw [z, h] at ha; cases ha)]
    exact ha⟩
theorem ExN.of {H H' : Hp} (e : Ex H H') : ExN H H' := ⟨fun _ _ _ _ h => e _ _ h, fun _ _ h => e _ _ h⟩
theorem ExN.trans {H H1 H2 : Hp} (e : ExN H H1) (e' : ExN H1 H2) : ExN H H2 := ⟨fun a C dx fs h => e'.ins _ _ _ _ (e.ins _ _ _ _ h), fun a xs h => e'.tup _ _ (e.tup _ _ h)⟩
mutual
theorem PrAt.keep {C : Addr} {H H' : Hp} (e : ExN H H') : ∀ {p : Pr} {a : Addr}, PrAt C H a p → PrAt C H' a p
  | .choice os, a, h => by
    unfold PrAt at h ⊢
    obtain ⟨t, ps, ⟨dx, h1⟩, h2, h3⟩ := h
    exact ⟨t, ps, ⟨dx, e.ins _ _ _ _ h1⟩, e.tup _ _ h2, OfsAt.keep e h3⟩
  | .new n k r, a, h => by
    unfold PrAt at h ⊢
    obtain ⟨t, b, ⟨dx, h1⟩, h2, h3⟩ := h
    exact ⟨t, b, ⟨dx, e.ins _ _ _ _ h1⟩, e.tup _ _ h2, PrAt.keep e h3⟩
  | .cond l r y n, a, h => by
    unfold PrAt at h ⊢
    obtain ⟨t, b, c, ⟨dx, h1⟩, h2, h3, h4⟩ := h
    exact ⟨t, b, c, ⟨dx, e.ins _ _ _ _ h1⟩, e.tup _ _ h2, PrAt.keep e h3, PrAt.keep e h4⟩
  | .call n ops, a, h => by
    unfold PrAt at h ⊢
    obtain ⟨t, u, ⟨dx, h1⟩, h2, h3⟩ := h
    exact ⟨t, u, ⟨dx, e.ins _ _ _ _ h1⟩, e.tup _ _ h2, e.tup _ _ h3⟩
theorem OfsAt.keep {C : Addr} {H H' : Hp} (e : ExN H H') : ∀ {os : Ofs} {ps : List V}, OfsAt C H ps os → OfsAt C H' ps os
  | .nil, ps, h => by
    unfold OfsAt at h ⊢
    exact h
  | .cons c s m op ns r os, ps, h => by
    unfold OfsAt at h ⊢
    obtain ⟨o, u, b, qs, h1, h2, h3, h4, h5⟩ := h
    exact ⟨o, u, b, qs, h1, e.tup _ _ h2, e.tup _ _ h3, PrAt.keep e h4, OfsAt.keep e h5⟩
end
/-- item by item -/
def LsA {α : Type} (R : Hp → V → α → Prop) (H : Hp) : List V → List α → Prop
  | [], [] => True
  | v :: vs, x :: xs => R H v x ∧ LsA R H vs xs
  | _, _ => False
section
variable {α : Type} {R : Hp → V → α → Prop} {H H' : Hp}
theorem LsA.imp (e : ∀ v x, R H v x → R H' v x) : ∀ {vs : List V} {xs : List α}, LsA R H vs xs → LsA R H' vs xs
  | [], [], _ => True.intro
  | _ :: _, _ :: _, h => ⟨e _ _ h.1, LsA.imp e h.2⟩
  | [], _ :: _, h => h.elim
  | _ :: _, [], h => h.elim
theorem LsA.append : ∀ {vs ws : List V} {xs ys : List α}, LsA R H vs xs → LsA R H ws ys → LsA R H (vs ++ ws) (xs ++ ys)
  | [], _, [], _, _, g => g
  | _ :: _, _, _ :: _, _, h, g => ⟨h.1, LsA.append h.2 g⟩
  | [], _, _ :: _, _, h, _ => h.elim
  | _ :: _, _, [], _, h, _ => h.elim
theorem LsA.snoc {v : V} {x : α} {vs : List V} {xs : List α} (h : LsA R H vs xs) (hv : R H v x) : LsA R H (vs ++ [v]) (xs ++ [x]) := h.append ⟨hv, True.intro⟩
theorem LsA.length : ∀ {vs : List V} {xs : List α}, LsA R H vs xs → vs.length = xs.length
  | [], [], _ => rfl
  | _ :: _, _ :: _, h => congrArg (· + 1) (LsA.length h.2)
  | [], _ :: _, h => h.elim
  | _ :: _, [], h => h.elim
theorem LsA.get : ∀ {vs : List V} {xs : List α} {i : Nat} {v : V}, LsA R H vs xs → vs[i]? = some v → ∃ x, xs[i]? = some x ∧ R H v x
  | _ :: _, x :: _, 0, v, h, e => ⟨x, rfl, by cases e; exact h.1⟩
  | _ :: _, _ :: _, i + 1, v, h, e => LsA.get (i := i) h.2 e
  | [], _, _, _, _, e => by simp at e
  | _ :: _, [], _, _, h, _ => h.elim
theorem LsA.at_ {vs : List V} {xs : List α} {i : Nat} (h : LsA R H vs xs) (hi : i < vs.length) : ∃ v x, vs[i]? = some v ∧ xs[i]? = some x ∧ R H v x := by
  obtain ⟨x, h1, h2⟩ := LsA.get h (List.getElem?_eq_getElem hi)
  exact ⟨_, x, List.getElem?_eq_getElem hi, h1, h2⟩
end
/-- it evaluates to something with this word -/
def EvS (te : TE) (σ : L2.St) (H : Hp) (Pv : V → Hp → Prop) : Prop := ∀ H1, Ex H H1 → ∀ Q : VK, (∀ v H2, Ex H1 H2 → Pv v H2 → Q v H2) → te σ H1 Q
section
variable {σ : L2.St} {H : Hp} {te ta : TE} {Pv : V → Hp → Prop} {K : PySem.W.Frag} {D : Ends} {tz : TS}
theorem s_appS {l : Addr} {xs : List V} (hl : H l = some (.lst xs)) (ha : Ev ta σ H (.ref l)) (h : EvS te σ H Pv) (hz : xs.length < 100000) (k : ∀ v H1, Ex H H1 → Pv v H1 → D.nx σ (upd H1 l (.lst (xs ++ [v])))) :
    tDrop (tBM K "list" rAppend ta (tCons te tNil)) D σ H := ha H (Ex.refl H) _ fun H1 e1 =>
  ⟨Or.inl ⟨rfl, xs, sq_of (e1 l _ hl)⟩, h H1 e1 _ fun v H2 e2 hv => ⟨l, xs, v, rfl, rfl, e2 l _ (e1 l _ hl), sz_lt hz, k v H2 (e1.trans e2) hv⟩⟩
theorem q_asgS {i : Nat} (h : EvS te σ H Pv) (k : ∀ v H1, Ex H H1 → Pv v H1 → tz D (σ.set i (some v)) H1) : tSeq (tAsg te (gName i)) tz D σ H := h H (Ex.refl H) _ fun v H1 e1 hv => k v H1 e1 hv
theorem s_retS (h : EvS te σ H Pv) (k : ∀ v H1, Ex H H1 → Pv v H1 → D.rt v H1) : tRet te D σ H := h H (Ex.refl H) _ fun v H1 e1 hv => k v H1 e1 hv
/-- a slice of a new list -/
theorem el_slN {tl th : TO} {xs : List V} {lo hi : Option Int} (h : EvL te σ H xs) (h1 : EvO tl σ H lo) (h2 : EvO th σ H hi) : EvL (tSl (rSlL K) te tl th) σ H (cutV xs lo hi) := fun H1 e Q q =>
  h H1 e _ fun a H2 ha e2 h2' => h1 H2 (e.trans e2) _ fun H3 e3 => h2 H3 ((e.trans e2).trans e3) _ fun H4 e4 =>
    ⟨a, xs, rfl, sq_of ((e3.trans e4) _ _ h2'), fun p hp => q p _ (fresh_back ((e2.trans e3).trans e4) hp) (((e2.trans e3).trans e4).trans (Ex.new hp)) upd_same⟩
end
end FsK

set_option Elab.async false
set_option linter.all false
set_option maxRecDepth 100000
set_option maxHeartbeats 2000000
/-! o[i] and len(o) by an own class's __getitem__ and __len__; d.update(e); a statement that is never met. -/
namespace FsR
open PySem PySem.Spec PyProof.Rows L2
theorem run_atS {X : Cx} {CX : CXT} {k : Nat} {f : Addr} {fd : FuncData} {ps : List Str} {sp : Sp} {E : L2.St → XK} {pins : List (Addr × Obj)} {σ : L2.St} {H : Hp} {s : Shared} {Q : VK} {us : List Value} {vs : List V} {A : Around} (F : FnOk X.prog X.w X.K X.mg X.base CX k f fd ps sp) (hr : Room k A)
    (he : Env0 X.prog X.w X.K X.mg X.base A X.stack s H) (hb : Binds X.K fd ps []) (hx : PassesAt CX X σ (E σ))
    (I : Inv X pins σ H s) (r : Vals vs us) (h : sp vs H Q (E σ)) : wpAny (model X.prog X.w) A (call (.ref f) us) (EP X pins σ Q) X.xe s := by
  have hl : us.length = ps.length := by rw [← r.length]; exact F.len _ _ _ _ h
  have b := hb s us I.kIn (by rw [List.append_nil]; exact hl)
  rw [List.append_nil] at b
  refine wpAny_call (codeAny_mono (F.run A X.stack s H ⟨us, []⟩ us vs Q (E σ) hr he b r h) fun r s' hq => ?_)
  cases r with
  | error e => exact hx pins H s e s' I hq
  | ok fl =>
    cases fl with
    | ret u => exact I.after hq
    | next => exact False.elim hq
    | brk => exact False.elim hq
    | cont => exact False.elim hq
structure IxM (K : PySem.W.Frag) (C : Addr) (g : Addr) : Prop where
  at_ : PySem.W.findIn K (.ref C) "__getitem__" = some (some (.ref g))
  fn : PySem.W.isFn K (.ref g) = true
  fi : PySem.W.fnIn K g = true
/-- o[i] -/
def tIxO (C : Addr) (sp : Sp) (E : L2.St → XK) (ta tb : TE) : TE := fun σ H Q => ta σ H fun x H1 => tb σ H1 fun y H2 => ∃ (a dx : Addr) (fs : List (Str × V)), x = .ref a ∧ H2 a = some (.ins C dx fs) ∧ sp [.ref a, y] H2 Q (E σ)
theorem pe_ixO {X : Cx} {CX : CXT} {k : Nat} {C g : Addr} {fd : FuncData} {ps : List Str} {sp : Sp} {E : L2.St → XK} {ea eb : Expr} {pos : Pos} {ta tb : TE} (ha : PE X ea ta) (hb : PE X eb tb) (M : IxM X.K C g) (F : FnOk X.prog X.w X.K X.mg X.base CX k g fd ps sp) (hr : Room (k + 1) X.A) (hd : Binds X.K fd ps [])
    (hx : ∀ σ, PassesAt CX X σ (E σ)) (hsl : ∀ v i, subscripted eb true v i = runValue (.builtin "lifetime.subscript" ⟨[v, i], []⟩) := by intro _ _; with_unfolding_all rfl) : PE X (.Subscript ea eb pos) (tIxO C sp E ta tb) := by
  refine ⟨fun pins s σ H Q I h => ?_⟩
  refine Subscript_ (binT ha hb I h fun v u s2 x y H2 I2 rx ry q => ?_)
  obtain ⟨a, dx, fs, rfl, h1, q⟩ := q
  obtain rfl : v = Value.ref a := rx
  obtain ⟨_, O1, _, _, _, _⟩ := ins_get I2.hok h1
  obtain ⟨_, i1, _⟩ := O1.look
  obtain ⟨m, fr⟩ := I2.fr
  refine PySem.W.sub_K fr I2.ok.mod.kin i1 M.at_ M.fi M.fn ?_ (hsl _ _)
  exact run_atS (us := [.ref a, u]) (vs := [.ref a, y]) F hr.in1 I2.env0.in1 hd (hx σ) I2 (.cons rfl (.cons ry .nil)) q
structure LenM (K : PySem.W.Frag) (C : Addr) (g : Addr) : Prop where
  at_ : PySem.W.findIn K (.ref C) "__len__" = some (some (.ref g))
  fn : PySem.W.isFn K (.ref g) = true
/-- len(o) -/
def rLenO (C : Addr) (sp : Sp) (E : XK) : List V → Hp → VK → Prop := fun xs H Q => ∃ (a dx : Addr) (fs : List (Str × V)), xs = [.ref a] ∧ H a = some (.ins C dx fs) ∧ sp [.ref a] H (fun v H' => ∃ n : Nat, v = .int (n : Int) ∧ (n : Int) < 2 ^ 63 ∧ Q (.int (n : Int)) H') E
theorem call_lenO {X : Cx} {CX : CXT} {k : Nat} {C g : Addr} {fd : FuncData} {ps : List Str} {sp : Sp} {E : XK} (M : LenM X.K C g) (F : FnOk X.prog X.w X.K X.mg X.base CX k g fd ps sp) (hr : Room (k + 1) X.A) (hd : Binds X.K fd ps [])
    (hx : ∀ σ, PassesAt CX X σ E) : CallR X (.builtin "len") (rLenO C sp E) := by
  intro pins s σ H xs us Q I r h
  obtain ⟨a, dx, fs, rfl, h1, q⟩ := h
  obtain ⟨u, rfl, ru⟩ := vals1 r
  obtain rfl : u = Value.ref a := ru
  obtain ⟨_, O1, _, _, _, _⟩ := ins_get I.hok h1
  obtain ⟨_, i1, _⟩ := O1.look
  obtain ⟨m, fr⟩ := I.fr
  refine PySem.W.len_K fr I.ok.mod.kin i1 M.at_ M.fn (wpAny_mono (run_atS (E := fun _ => E) (us := [.ref a]) (vs := [.ref a]) F hr.in1 I.env0.in1 hd (hx σ) I (.cons rfl .nil) q) (fun w s' z => ?_) fun _ _ x => x)
  obtain ⟨v, H', J, rv, n, ev, hn, q'⟩ := z
  subst ev
  obtain ⟨t, rfl⟩ := rv
  exact ⟨⟨by omega, hn⟩, .int (n : Int), H', J.tok _, ⟨_, rfl⟩, q'⟩
/-- d.update(e) -/
def rUpd : V → List V → Hp → VK → Prop := fun x vs H Q => ∃ (d o : Addr) (kvs more : List (Key × V)), x = .ref d ∧ vs = [.ref o] ∧ d ≠ o ∧ H d = some (.dK kvs) ∧ H o = some (.dK more) ∧ kvs.length + more.length ≤ 100000 ∧ Q .non (upd H d (.dK (mergeK kvs more)))
theorem mt_update {X : Cx} : MtR X "dict.update" rUpd := by
  intro pins s σ H x xs v us Q I rx rv h
  obtain ⟨d, o, kvs, more, rfl, rfl, hne, hd, ho, hz, q⟩ := h
  obtain rfl : v = Value.ref d := rx
  obtain ⟨u, rfl, ru⟩ := vals1 rv
  obtain rfl : u = Value.ref o := ru
  obtain ⟨z1, y1, v1, r1, d1⟩ := dk_of I.hok hd
  obtain ⟨z2, y2, v2, r2, d2⟩ := dk_of I.hok ho
  have hl : v1.length + v2.length ≤ sizeLine := by
    rw [← r1.length, ← r2.length, sizeLine_eq]
    omega
  refine call_meetsIn PySem.F.slot_dict_update d1.typeIs PySem.F.entry_dict_update (PySem.F.args_dict_update_2 _ _) (meets_dict_update (mixKind X.prog X.w) d o hne y2)
    ⟨v1, v2, d1, d2, hl, fun h' dd' _ hs => ?_⟩
  have he : ∃ q, h'.get? d = some q := let ⟨q, _, _, hq, _⟩ := dd'; ⟨q, hq⟩
  refine ⟨.non, _, d_write I (by rw [hd]; exact True.intro) hs he (dk_new ?_ y1 (r2.merge r1) dd'), rfl, q⟩
  have := length_mergeK more kvs
  rw [sizeLine_eq]
  omega
end FsR

set_option Elab.async false
set_option linter.all false
set_option maxRecDepth 100000
set_option maxHeartbeats 2000000
/-! name = {k: v for ..} on one line. -/
namespace L2
open PySem PySem.Spec PyProof.Rows
theorem ps_setDc {X : Cx} {i : Nat} {y : Str} {py : Pos} {kx vx tg iter : Expr} {ifs : List Expr} {scope : Scope} {own : List (Str × Nat)} {pos spos : Pos} {wi : TI} {g : TG} {tt : TT} {tk tv : TE} (hc : X.calm = true) (hN : X.N.Nodup) (hy : X.N[i]? = some y) (hyl : X.env.scope.names.lookup y = some .local)
    (hsw : swapsWith (.DictComp kx vx [⟨tg, iter, ifs, 0⟩] scope pos) (some (.Name y py)) spos.line X.env = pure true) (hi : PI X tg iter wi) (ok : BlkOk X.N X.env.scope scope own)
    (hg : ∀ (s : Shared) (H : Hp) (C : Addr) (cl : List (Str × Addr)) (fp : List Addr), PG (X.blk s H scope (compEnvC scope cl C X.env) fp) tg g) (ht : ∀ (s : Shared) (H : Hp) (C : Addr) (cl : List (Str × Addr)) (fp : List Addr), PTs (X.blk s H scope (compEnvC scope cl C X.env) fp) ifs tt)
    (hk : ∀ (s : Shared) (H : Hp) (C : Addr) (cl : List (Str × Addr)) (fp : List Addr), PE (X.blk s H scope (compEnvC scope cl C X.env) fp) kx tk)
    (he : ∀ (s : Shared) (H : Hp) (C : Addr) (cl : List (Str × Addr)) (fp : List Addr), PE (X.blk s H scope (compEnvC scope cl C X.env) fp) vx tv) (hs : ∀ x, foldedSetIterable iter X.env x = pure x := by intro _; rfl) :
    PS X (.Assign [.Name y py] (.DictComp kx vx [⟨tg, iter, ifs, 0⟩] scope pos) spos) (tAsg (tDc wi g tt tk tv (own.map (·.2))) (gName i)) := by
  refine ⟨fun pins s σ H D I h => ?_⟩
  rw [exec_Assign_Name_used _ _ _ _ hsw]
  refine wpAny_bind (wpAny_standAt (wpAny_bind ?_))
  show wpAny _ X.A (do let _ ← comprehension (.DictComp kx vx [⟨tg, iter, ifs, 0⟩] scope pos) scope X.env (firstIterPos [⟨tg, iter, ifs, 0⟩] pos) newDict false (eval iter X.env) (some (assign (.Name y py) X.env))) _ _ s
  have h : tDc wi g tt tk tv (own.map (·.2)) σ H (fun x H1 => gName i x σ H1 D.nx) := h
  refine wpAny_bind (thn (dc_core (Qf := fun _ s' => SP X pins D .next s') hc hN I hi ok hg ht hk he hs h fun L C s' m H' I' q hn f => ?_) fun _ s' hq => wpAny_pure (wpAny_pure hq))
  show wpAny _ _ (assign (.Name y py) X.env (.ref L)) _ _ _
  refine wpAny_assign_Name (store_ok2 (v := V.ref L) I' hN hy (.inl hyl) rfl (fun s2 I2 ⟨a, sb, ha⟩ => ?_) (.inr hyl))
  obtain ⟨f0, f1, f2, f3, f4, f5⟩ := f
  have haC : C ≠ a := by
    rcases ha with z | z
    · rw [z]; exact f1
    · exact fun e => f4 y a z e.symm
  refine ⟨m, hn.sameBut sb haC, fun h3 sb3 => ?_⟩
  exact ⟨_, H', I2.turned (t' := s2.toks) (fun b o hb e => (sb3.2 b hb).trans e) f0 f1 f3 f4 f5, q⟩
theorem sw_trueD {kx vx : Expr} {gs : List Comprehension} {scope : Scope} {pos py : Pos} {y : Str} {l : Nat} {env : Env} (hk : env.scope.kind = .function) (hy : env.scope.names.lookup y = some .local) (hl : (py.line == pos.line) = true)
    (ha : (scope.names.any fun (n, k) => n == y && (k == .local || k == .cell)) = false) : swapsWith (.DictComp kx vx gs scope pos) (some (.Name y py)) l env = pure true := by
  have ky : env.kindOf y = some .local := hy
  have hb : env.blockKind = .function := by unfold Env.blockKind; rw [hk]; rfl
  unfold swapsWith
  simp only [hb, ky, ha, Expr.pos, hl]
  rfl
end L2

set_option Elab.async false
set_option linter.all false
set_option maxRecDepth 100000
set_option maxHeartbeats 2000000
/-! xs != [], xs == []. -/
namespace FsR
open PySem PySem.Spec PyProof.Rows L2 Evl
def rNeNil (K : PySem.W.Frag) : R2 := fun x y H Q => ∃ (a b : Addr) (xs : List V), x = .ref a ∧ y = .ref b ∧ SqL K H a xs ∧ SqL K H b [] ∧ Q (.bl (!xs.isEmpty)) H
theorem op_neNil {X : Cx} (hu : X.A.units < cLine) : OpR X (compareOp .NotEq) (rNeNil X.K) := by
  intro pins s σ H x y v u Q I rx ry h
  obtain ⟨a, b, xs, rfl, rfl, ha, hb, q⟩ := h
  obtain rfl : v = Value.ref a := rx
  obtain rfl : u = Value.ref b := ry
  obtain ⟨us, r1, p1, _⟩ := I.list ha
  obtain ⟨ws, r2, p2, _⟩ := I.list hb
  have hws : ws = [] := by
    cases r2
    rfl
  subst hws
  cases r1 with
  | nil =>
    refine SeqAt.RcNeAt.lists (e := fun _ => true) p1.isList p2.isList rfl hu (fun j h1 _ => by simp at h1) X.prog X.w X.xe _ ?_
    exact ⟨.bl false, H, I, rfl, q⟩
  | cons r rs =>
    refine SeqAt.RcNeAt.lists_lengths p1.isList p2.isList (by simp) hu X.prog X.w X.xe _ ?_
    exact ⟨.bl true, H, I, rfl, q⟩
def rEqNil (K : PySem.W.Frag) : R2 := fun x y H Q => ∃ (a b : Addr) (xs : List V), x = .ref a ∧ y = .ref b ∧ SqL K H a xs ∧ SqL K H b [] ∧ Q (.bl xs.isEmpty) H
theorem op_eqNil {X : Cx} (hu : X.A.units < cLine) : OpR X (compareOp .Eq) (rEqNil X.K) := by
  intro pins s σ H x y v u Q I rx ry h
  obtain ⟨a, b, xs, rfl, rfl, ha, hb, q⟩ := h
  obtain rfl : v = Value.ref a := rx
  obtain rfl : u = Value.ref b := ry
  obtain ⟨us, r1, p1, _⟩ := I.list ha
  obtain ⟨ws, r2, p2, _⟩ := I.list hb
  have hws : ws = [] := by
    cases r2
    rfl
  subst hws
  cases r1 with
  | nil =>
    refine SeqAt.RcAt.lists (e := fun _ => true) p1.isList p2.isList rfl hu (fun j h1 _ => by simp at h1) X.prog X.w X.xe _ ?_
    exact ⟨.bl true, H, I, rfl, q⟩
  | cons r rs =>
    refine SeqAt.RcAt.lists_lengths p1.isList p2.isList (by simp) hu X.prog X.w X.xe _ ?_
    exact ⟨.bl false, H, I, rfl, q⟩
theorem rv_neNil {K : PySem.W.Frag} {H : Hp} {a b : Addr} {xs : List V} (ha : SqL K H a xs) (hb : SqL K H b []) : RV (rNeNil K) (.ref a) (.ref b) H (.bl (!xs.isEmpty)) := fun H1 e _ q => ⟨a, b, xs, rfl, rfl, ex_l e ha, ex_l e hb, q H1 (Ex.refl H1)⟩
theorem rv_eqNil {K : PySem.W.Frag} {H : Hp} {a b : Addr} {xs : List V} (ha : SqL K H a xs) (hb : SqL K H b []) : RV (rEqNil K) (.ref a) (.ref b) H (.bl xs.isEmpty) := fun H1 e _ q => ⟨a, b, xs, rfl, rfl, ex_l e ha, ex_l e hb, q H1 (Ex.refl H1)⟩
end FsR
namespace FsR
open PySem PySem.Spec PyProof.Rows L2 Evl
/-- xs != ys, the same objects in both -/
def rNeSame (K : PySem.W.Frag) : R2 := fun x y H Q => ∃ (a b : Addr) (xs : List V), x = .ref a ∧ y = .ref b ∧ SqL K H a xs ∧ SqL K H b xs ∧ (∀ v ∈ xs, ∃ c, v = V.ref c) ∧ Q (.bl false) H
theorem vals_refs : ∀ {xs : List V} {us ws : List Value}, (∀ v ∈ xs, ∃ c, v = V.ref c) → Vals xs us → Vals xs ws → us = ws
  | _, _, _, _, .nil, .nil => rfl
  | x :: xs, _ :: _, _ :: _, h, .cons r rs, .cons t ts => by
    obtain ⟨c, rfl⟩ := h x List.mem_cons_self
    cases r
    cases t
    rw [vals_refs (fun v hv => h v (List.mem_cons_of_mem _ hv)) rs ts]
theorem op_neSame {X : Cx} (hu : X.A.units < cLine) : OpR X (compareOp .NotEq) (rNeSame X.K) := by
  intro pins s σ H x y v u Q I rx ry h
  obtain ⟨a, b, xs, rfl, rfl, ha, hb, hx, q⟩ := h
  obtain rfl : v = Value.ref a := rx
  obtain rfl : u = Value.ref b := ry
  obtain ⟨us, r1, p1, _⟩ := I.list ha
  obtain ⟨ws, r2, p2, _⟩ := I.list hb
  have e := vals_refs hx r1 r2
  subst e
  refine SeqAt.RcNeAt.lists (e := fun _ => true) p1.isList p2.isList rfl hu (fun j h1 _ => SeqAt.EqAt.same _) X.prog X.w X.xe _ ?_
  refine ⟨.bl false, H, I, ?_, q⟩
  show Value.bool _ = Value.bool false
  simp
theorem rv_neSame {K : PySem.W.Frag} {H : Hp} {a b : Addr} {xs : List V} (ha : SqL K H a xs) (hb : SqL K H b xs) (hx : ∀ v ∈ xs, ∃ c, v = V.ref c) : RV (rNeSame K) (.ref a) (.ref b) H (.bl false) := fun H1 e _ q => ⟨a, b, xs, rfl, rfl, ex_l e ha, ex_l e hb, hx, q H1 (Ex.refl H1)⟩
end FsR

set_option Elab.async false
set_option linter.all false
set_option maxRecDepth 100000
set_option maxHeartbeats 2000000
namespace Fs
open PySem L2 Evl FsE FsC
def topS (i : Nat) : Stmt := PySem.Challenge.pw_fullseats_k26_all_seatings.main.body.getD i (.Pass ⟨0, 0, 0, 0⟩)
structure LawT (K : PySem.W.Frag) (mg : Str → Option Value) : Prop where
  len : mg "len" = none
  int : mg "int" = none
  abs : mg "abs" = none
  range : mg "range" = none
section
variable {P : Program} {w : World} {K : PySem.W.Frag} {mg : Str → Option Value} {base : Heap}
theorem rc_int {K : PySem.W.Frag} {i : Int} {H : Hp} : RC (fun xs H Q => (∃ i, xs = [V.int i] ∧ Q (.int i) H) ∨ ∃ k, xs = [V.bl k] ∧ Q (.int (if k then 1 else 0)) H) [.int i] H (.int i) := fun H1 _ Q q => .inl ⟨i, rfl, q H1 (Ex.refl H1)⟩
/-- _law_cell_at(script, k): some int -/
def spCellAt (K : PySem.W.Frag) : Sp := fun vs H Q _ => ∃ (a : Addr) (ns : List Int) (k : Nat), vs = [.ref a, .int (k : Int)] ∧ SqL K H a (ns.map V.int) ∧ ∀ i : Int, RetV (.int i) H Q
theorem scCellAt : FnScope ["_law_script", "_law_k"] ["_law_script", "_law_k"] (defScope (topS 6)) := ⟨rfl, rfl, rfl, by decide +kernel, rfl, by decide +kernel, by decide +kernel⟩
theorem ok_cell_at {f : Addr} {fd : FuncData} (F : Fun K "_law_cell_at" "_law_cell_at" (topS 6) f fd) (T : LawT K mg) : FnOk P w K mg base CX0 1 f fd ["_law_script", "_law_k"] (spCellAt K) := by
  refine F.ok scCellAt (fun vs H Q E h => ?_) (fun cdv A outer s H vs Q E hr h => ?_)
  · obtain ⟨a, ns, k, rfl, _⟩ := h
    rfl
  · obtain ⟨a, ns, k, rfl, hS, q⟩ := h
    refine ⟨_, pss_cons (ps_if (pt_cmpR op_lt (pv 1) (pe_callB call_len_seq (by rfl) T.len PySem.boot_len (pa_cons (pv 0) pa_nil)) (nomark _)) (pss_one (ps_ret (pe_ix ix_list (pv 0) (pv 1) (fun _ _ => rfl)))) pss_nil) (pss_one (ps_ret pe_int)), ?_⟩
    refine q_when (b := decide ((k : Int) < ((ns.map V.int).length : Nat))) (et_test (ev_op (ev_var rfl) (ev_cb (ea_cons (ev_var rfl) ea_nil) (fun H2 e2 Q' q' => ⟨a, _, rfl, .inl (ex_l e2 hS), q' H2 (Ex.refl H2)⟩)) rv_I0)) (fun hb H1 e1 => ?_) (fun hb H1 e1 => ?_)
    · have hk : k < ns.length := by
        have : (k : Int) < ((ns.map V.int).length : Nat) := by simpa using hb
        rw [List.length_map] at this
        omega
      refine s_ret (v := .int ns[k]) (ev_op (ev_var rfl) (ev_var rfl) (rv_ixL (ex_l e1 hS) (atI_nat (by rw [List.getElem?_map, List.getElem?_eq_getElem hk]; rfl)))) (fun H2 e2 => q _ H2 (e1.trans e2))
    · exact s_ret ev_c (fun H2 e2 => q _ H2 (e1.trans e2))
/-- _law_mixed(cell, k): some int -/
def spMixed : Sp := fun vs H Q _ => ∃ (c : Int) (k : Nat), vs = [.int c, .int (k : Int)] ∧ k ≤ 1000 ∧ ∀ i : Int, RetV (.int i) H Q
theorem scMixed : FnScope ["_law_cell", "_law_k", "_law_spread"] ["_law_cell", "_law_k"] (defScope (topS 7)) := ⟨rfl, rfl, rfl, by decide +kernel, rfl, by decide +kernel, by decide +kernel⟩
theorem ok_mixed {f : Addr} {fd : FuncData} (F : Fun K "_law_mixed" "_law_mixed" (topS 7) f fd) (T : LawT K mg) : FnOk P w K mg base CX0 1 f fd ["_law_cell", "_law_k"] spMixed := by
  refine F.ok scMixed (fun vs H Q E h => ?_) (fun cdv A outer s H vs Q E hr h => ?_)
  · obtain ⟨c, k, rfl, _⟩ := h
    rfl
  · obtain ⟨c, k, rfl, hk, q⟩ := h
    refine ⟨_, pss_cons (ps_set (i := 2) scMixed.nd rfl (Or.inl rfl) (pe_op op_mod (pe_callTy call_int1 (by rfl) T.int (by decide +kernel) (pa_cons (pe_op op_pow (pe_op op_add (pe_op op_add (pe_op op_mod (pe_callTy call_int1 (by rfl) T.int (by decide +kernel) (pa_cons (pv 0) pa_nil)) pe_int) (pe_op op_mul pe_int (pv 1))) pe_int) pe_int) pa_nil)) pe_int))
      (pss_one (ps_ret (pe_op op_mod (pe_callTy call_int1 (by rfl) T.int (by decide +kernel) (pa_cons (pe_op op_mul (pe_op op_add (pv 2) (pv 1)) pe_int) pa_nil)) pe_int))), ?_⟩
    have h1 := Int.emod_nonneg c (b := 2147483647) (by decide)
    have h2 := Int.emod_lt_of_pos c (b := 2147483647) (by decide)
    refine ⟨.int c, rfl, .inl ⟨c, rfl, c, 2147483647, rfl, rfl, (by decide : (0 : Int) < 2147483647), ?_⟩⟩
    refine ⟨.int (k : Int), rfl, 7919, (k : Int), rfl, rfl, .inl ⟨by decide, by decide⟩, ?_⟩
    refine ⟨c % 2147483647, 7919 * (k : Int), rfl, rfl, c % 2147483647 + 7919 * (k : Int), 104729, rfl, rfl, ?_⟩
    refine ⟨c % 2147483647 + 7919 * (k : Int) + 104729, 5, rfl, rfl, ⟨by decide, by decide, by omega⟩, ?_⟩
    refine .inl ⟨_, rfl, _, 2147483647, rfl, rfl, (by decide : (0 : Int) < 2147483647), ?_⟩
    refine ⟨_, rfl, .int (k : Int), rfl, _, (k : Int), rfl, rfl, _, 40692, rfl, rfl, .inr ⟨by decide, by decide⟩, ?_⟩
    refine .inl ⟨_, rfl, _, 2147483629, rfl, rfl, (by decide : (0 : Int) < 2147483629), ?_⟩
    exact q _ H (Ex.refl H)
/-- _law_row(cell, many): so many ints from 0 to 999 -/
def RowOk (row : List Int) : Prop := ∀ v ∈ row, 0 ≤ v ∧ v < 1000
def spRow : Sp := fun vs H Q _ => ∃ (c : Int) (n : Nat), vs = [.int c, .int (n : Int)] ∧ n ≤ 500 ∧ ∀ row : List Int, row.length = n → RowOk row → RetL (row.map V.int) H Q
theorem scRow : FnScope ["_law_cell", "_law_many", "_law_row_here", "_law_rest", "_law_k"] ["_law_cell", "_law_many"] (defScope (topS 8)) := ⟨rfl, rfl, rfl, by decide +kernel, rfl, by decide +kernel, by decide +kernel⟩
theorem rowOk_add {row : List Int} {v : Int} (h : RowOk row) (h0 : 0 ≤ v) (h1 : v < 1000) : RowOk (row ++ [v]) := fun x hx => by
  rcases List.mem_append.mp hx with hx | hx
  · exact h x hx
  · rw [List.mem_singleton.mp hx]
    exact ⟨h0, h1⟩
theorem ok_row {f : Addr} {fd : FuncData} (F : Fun K "_law_row" "_law_row" (topS 8) f fd) (T : LawT K mg) (GM : CalX P w K mg base CX0 1 "_law_mixed" spMixed) : FnOk P w K mg base CX0 2 f fd ["_law_cell", "_law_many"] spRow := by
  refine F.ok scRow (fun vs H Q E h => ?_) (fun cdv A outer s H vs Q E hr h => ?_)
  · obtain ⟨c, n, rfl, _⟩ := h
    rfl
  · obtain ⟨c, n, rfl, hn, q⟩ := h
    refine ⟨_, pss_cons (ps_set (i := 2) scRow.nd rfl (Or.inl rfl) (pe_lst pa_nil))
      (pss_cons (ps_set (i := 3) scRow.nd rfl (Or.inl rfl) pe_int)
      (pss_cut (ps_if (pt_cmpR op_ge (pe_callB call_abs (by rfl) T.abs (by decide +kernel) (pa_cons (pv 0) pa_nil)) (pe_op op_pow pe_int pe_int) (nomark _)) (pss_one (ps_set (i := 3) scRow.nd rfl (Or.inl rfl) (pe_callB call_abs (by rfl) T.abs (by decide +kernel) (pa_cons (pv 0) pa_nil)))) pss_nil)
      (pss_cons (ps_for PassesOwn.never rfl (pi_range1 rfl T.range (pa_cons (pv 1) pa_nil)) (pg_name (i := 4) scRow.nd rfl (Or.inl rfl))
        (pss_one (ps_if (pt_cmpR op_gt (pv 3) pe_int (nomark _))
          (pss_cons (ps_expr (pe_bm PySem.F.plainAttrs_list PySem.F.slot_list_append PySem.F.type_list_append mt_append (pv 2) (pa_cons (pe_op op_mod (pe_callTy call_int1 (by rfl) T.int (by decide +kernel) (pa_cons (pv 3) pa_nil)) pe_int) pa_nil)))
            (pss_one (ps_set (i := 3) scRow.nd rfl (Or.inl rfl) (pe_op op_fdiv (pv 3) pe_int))))
          (pss_one (ps_expr (pe_bm PySem.F.plainAttrs_list PySem.F.slot_list_append PySem.F.type_list_append mt_append (pv 2) (pa_cons (pe_op op_mod (pe_callTy call_int1 (by rfl) T.int (by decide +kernel) (pa_cons (pe_cx (E := fun _ => E0) GM hr (by decide) (by rfl) at0 (pa_cons (pv 0) (pa_cons (pv 4) pa_nil))) pa_nil)) pe_int) pa_nil)))))))
      (pss_one (ps_ret (pv 2)))))), ?_⟩
    refine q_asgL (xs := []) (el_lst ea_nil (by decide)) (fun l H1 hl e1 h1 => ?_)
    refine q_asg (v := .int 0) ev_c (fun H2 e2 => ?_)
    refine q_cut (M := fun σ' H' => ∃ r : Int, σ' = [some (.int c), some (.int (n : Int)), some (.ref l), some (.int r), none] ∧ Ex H H' ∧ H' l = some (.lst [])) ?_ (fun σ3 H3 ⟨r, hσ3, e3, h3⟩ => ?_)
    · refine s_when (b := decide ((10 : Int) ^ (18 : Int).toNat ≤ if c < 0 then -c else c)) (et_test (ev_op (ev_cb (ea_cons (ev_var rfl) ea_nil) (fun H4 _ Q' q' => ⟨c, rfl, q' H4 (Ex.refl H4)⟩)) (ev_op ev_c ev_c (rv_I ⟨by decide, by decide, by decide⟩)) rv_I0)) (fun hb H3 e3 => ?_) (fun hb H3 e3 => ?_)
      · exact s_asg (ev_cb (ea_cons (ev_var rfl) ea_nil) (fun H4 _ Q' q' => ⟨c, rfl, q' H4 (Ex.refl H4)⟩)) (fun H4 e4 => ⟨_, rfl, ((e1.trans e2).trans e3).trans e4, (e2.trans (e3.trans e4)) _ _ h1⟩)
      · exact ⟨0, rfl, (e1.trans e2).trans e3, (e2.trans e3) _ _ h1⟩
    · subst hσ3
      refine q_forR1 (n := (n : Int)) (ea_cons (ev_var rfl) ea_nil) (by omega) (fun i σ' H' => ∃ (row : List Int) (rest : Int) (v4 : Option V), σ' = [some (.int c), some (.int (n : Int)), some (.ref l), some (.int rest), v4] ∧ H' l = some (.lst (row.map V.int)) ∧ row.length = i ∧ RowOk row ∧ Ex H H')
        (fun H4 e4 => ⟨[], r, none, rfl, e4 _ _ h3, rfl, (fun v hv => nomatch hv), e3.trans e4⟩) (fun i σ' H' hi ⟨row, rest, v4, hσ, hl', hlen, hrow, he⟩ => ?_) (fun σ' H' ⟨row, rest, v4, hσ, hl', hlen, hrow, he⟩ => ?_)
      · subst hσ
        have hsz : (row.map V.int).length < 100000 := by rw [List.length_map]; omega
        have app : ∀ v : Int, row.map V.int ++ [V.int v] = (row ++ [v]).map V.int := fun v => by rw [List.map_append]; rfl
        refine s_if (b := decide (0 < rest)) (et_test (ev_op (ev_var rfl) ev_c rv_I0)) (fun hb H4 e4 => ?_) (fun hb H4 e4 => ?_)
        · refine q_app (xs := row.map V.int) (v := .int (rest % 1000)) (e4 _ _ hl') (ev_var rfl) (ev_op (x := .int rest) (ev_cb (ea_cons (ev_var rfl) ea_nil) (rc_int (K := K))) ev_c (rv_I (by decide))) hsz (fun H5 e5 => ?_)
          refine s_asg (ev_op (x := .int rest) (ev_var rfl) ev_c (rv_I ⟨by decide, by decide⟩)) (fun H6 e6 => ?_)
          refine ⟨row ++ [rest % 1000], _, _, rfl, e6 _ _ (by rw [← app]; exact upd_same), (by rw [List.length_append, hlen]; rfl), rowOk_add hrow (Int.emod_nonneg _ (by decide)) (Int.emod_lt_of_pos _ (by decide)), (Ex.mut ((he.trans e4).trans e5) hl).trans e6⟩
        · refine ⟨_, rfl, .inl ⟨rfl, _, sq_of (e4 _ _ hl')⟩, _, rfl, _, rfl, c, i, rfl, by omega, fun m H5 e5 => .inl ⟨m, rfl, m, 1000, rfl, rfl, (by decide : (0 : Int) < 1000), l, row.map V.int, .int (m % 1000), rfl, rfl, (e4.trans e5) _ _ hl', sz_lt hsz, ?_⟩⟩
          refine ⟨row ++ [m % 1000], _, _, rfl, (by rw [← app]; exact upd_same), (by rw [List.length_append, hlen]; rfl), rowOk_add hrow (Int.emod_nonneg _ (by decide)) (Int.emod_lt_of_pos _ (by decide)), Ex.mut ((he.trans e4).trans e5) hl⟩
      · subst hσ
        have hn' : row.length = n := by simpa using hlen
        refine s_ret (ev_var rfl) (fun H4 e4 => q row hn' hrow l H4 hl (he.trans e4) (e4 _ _ hl'))
end
end Fs

set_option Elab.async false
set_option linter.all false
set_option maxRecDepth 100000
set_option maxHeartbeats 2000000
/-! generators of one's own that are asked for their first item alone: their bodies (with for, nested ones too), the for over them that leaves at its first turn -/
namespace FsG
open PySem PySem.Spec PyProof.Rows GenW L2

/-- what is wanted behind a statement of such a generator; yl: an item is out -/
structure GE where
  nx : L2.St → Hp → Prop
  rt : VK
  bk : L2.St → Hp → Prop := fun _ _ => False
  ct : L2.St → Hp → Prop := fun _ _ => False
  yl : VK
abbrev TF := GE → L2.St → Hp → Prop
def GE.at (D : GE) : Ends := { nx := D.nx, rt := D.rt, bk := D.bk, ct := D.ct }
/-- where the generator's code stands -/
structure FC (X : Cx) (A : Around) (c : Code) (fs : List Frame) (gd : Bool → Bool) : Prop where
  over : A.over c fs = X.A
  split : splitAtGen fs = none
  guard : fs.any Frame.guarded = false
  gd : gd false = false
/-- what follows -/
structure FK (X : Cx) (ip : List (Addr × Obj)) (A : Around) (R : GenEnd) (Y : Protocol) (c : Code) (fs : List Frame) (K : Flow → Sem PySem.Fin) (J : Value → Sem PySem.Fin) (D : GE) : Prop where
  ok : ∀ (s₀ s : Shared) (f : Flow), SP X ip D.at f s → Seg (model X.prog X.w) A R Y 1 s₀ c (K f) fs s
  exc : ∀ (s₀ : Shared) (e : Value) (s : Shared), X.xe e s → Seg (model X.prog X.w) A R Y 1 s₀ c (J e) fs s
  yl : ∀ (v : Value) (x : V) (ip' : List (Addr × Obj)) (s : Shared) (σ : L2.St) (H : Hp), RelV x v → Inv X ip' σ H s → D.yl x H → ∀ (s₀ : Shared) (kap : Resume → Shared → Prop), Y 0 s₀ v s kap
structure GF (X : Cx) (st : Stmt) (t : TF) : Prop where
  run : ∀ (A : Around) (ip : List (Addr × Obj)) (R : GenEnd) (Y : Protocol) (s₀ : Shared) (c : Code) (fs : List Frame) (K : Flow → Sem PySem.Fin) (J : Value → Sem PySem.Fin) (gd : Bool → Bool) (lv : List Value → List Value) (s : Shared) (σ : L2.St) (H : Hp) (D : GE),
    FC X A c fs gd → FK X ip A R Y c fs K J D → Inv X ip σ H s → t D σ H →
    Seg (model X.prog X.w) A R Y 1 s₀ c ((exec st X.env).wrap K J gd lv) fs s
structure GFs (X : Cx) (st : List Stmt) (t : TF) : Prop where
  run : ∀ (A : Around) (ip : List (Addr × Obj)) (R : GenEnd) (Y : Protocol) (s₀ : Shared) (c : Code) (fs : List Frame) (K : Flow → Sem PySem.Fin) (J : Value → Sem PySem.Fin) (gd : Bool → Bool) (lv : List Value → List Value) (s : Shared) (σ : L2.St) (H : Hp) (D : GE),
    FC X A c fs gd → FK X ip A R Y c fs K J D → Inv X ip σ H s → t D σ H →
    Seg (model X.prog X.w) A R Y 1 s₀ c ((execs st X.env).wrap K J gd lv) fs s

section
variable {X : Cx} {st : Stmt} {rest : List Stmt} {pos : Pos}
def tFP (t : TS) : TF := fun D σ H => t D.at σ H
theorem gf_ps {t : TS} (h : PS X st t) : GF X st (tFP t) := by
  refine ⟨fun A ip R Y s₀ c fs K J gd lv s σ H D g k I ht => ?_⟩
  refine seg_wrap ?_
  rw [g.over]
  exact wpAny_mono (h.run _ s σ H D.at I ht) (fun f s' hs => k.ok s₀ s' f hs) fun x s' hx => k.exc s₀ x s' hx
theorem gfs_pss {t : TS} (h : PSs X rest t) : GFs X rest (tFP t) := by
  refine ⟨fun A ip R Y s₀ c fs K J gd lv s σ H D g k I ht => ?_⟩
  refine seg_wrap ?_
  rw [g.over]
  exact wpAny_mono (h.run _ s σ H D.at I ht) (fun f s' hs => k.ok s₀ s' f hs) fun x s' hx => k.exc s₀ x s' hx
def tF0 : TF := fun D σ H => D.nx σ H
theorem gfs_nil : GFs X [] tF0 := by
  refine ⟨fun A ip R Y s₀ c fs K J gd lv s σ H D g k I ht => ?_⟩
  exact seg_execs_nil (k.ok s₀ s .next ⟨σ, H, I, ht⟩)
def tFSeq (t u : TF) : TF := fun D σ H => t { D with nx := fun σ' H' => u D σ' H' } σ H
theorem gfs_cons {t u : TF} (a : GF X st t) (b : GFs X rest u) : GFs X (st :: rest) (tFSeq t u) := by
  refine ⟨fun A ip R Y s₀ c fs K J gd lv s σ H D g k I ht => ?_⟩
  refine seg_execs_cons ?_
  refine a.run A ip R Y s₀ c fs _ J gd lv s σ H { D with nx := fun σ' H' => u D σ' H' } g ⟨fun s₀' s' f hs => ?_, k.exc, k.yl⟩ I ht
  cases f with
  | next =>
    obtain ⟨σ', H', I', q⟩ := hs
    exact b.run A ip R Y s₀' c fs K J gd lv s' σ' H' D g k I' q
  | brk => exact k.ok s₀' s' .brk hs
  | cont => exact k.ok s₀' s' .cont hs
  | ret u => exact k.ok s₀' s' (.ret u) hs
theorem gfs_one {t : TF} (a : GF X st t) : GFs X [st] (tFSeq t tF0) := gfs_cons a gfs_nil
def tFIf (tc : TT) (ta tb : TF) : TF := fun D σ H => tc σ H fun b H1 => if b = true then ta D σ H1 else tb D σ H1
theorem gf_if {test : Expr} {body orelse : List Stmt} {tc : TT} {ta tb : TF} (hc : PT X test tc) (ha : GFs X body ta) (hb : GFs X orelse tb) : GF X (.If test body orelse pos) (tFIf tc ta tb) := by
  refine ⟨fun A ip R Y s₀ c fs K J gd lv s σ H D g k I ht => ?_⟩
  show Seg _ _ _ _ 1 s₀ c (.at pos fun _ => ((isTrue test X.env (eval test X.env)) >>= fun b => if b = true then execs body X.env else execs orelse X.env).wrap K J gd lv) fs s
  refine seg_at ?_
  refine seg_bind_wrap ?_
  rw [g.over]
  refine wpAny_mono (hc.run _ s σ H _ I ht) (fun b s' hb' => ?_) fun x s' hx => k.exc s₀ x s' hx
  obtain ⟨H2, I2, q2⟩ := hb'
  cases b with
  | true =>
    rw [if_pos rfl] at q2
    rw [if_pos rfl]
    exact ha.run A ip R Y s₀ c fs K J gd lv s' σ H2 D g k I2 q2
  | false =>
    rw [if_neg Bool.false_ne_true] at q2
    rw [if_neg Bool.false_ne_true]
    exact hb.run A ip R Y s₀ c fs K J gd lv s' σ H2 D g k I2 q2
def tFYield (te : TE) : TF := fun D σ H => te σ H D.yl
theorem gf_yield {e : Expr} {yp : Pos} {te : TE} (he : PE X e te) (hco : X.env.scope.isCoroutine = false := by rfl) (hi : interactive X.env = false := by rfl) : GF X (.Expr (.Yield (some e) yp) pos) (tFYield te) := by
  refine ⟨fun A ip R Y s₀ c fs K J gd lv s σ H D g k I ht => ?_⟩
  refine seg_Expr_Yield (n := 0) g.split g.gd g.guard ?_ hco hi
  rw [g.over]
  refine wpAny_mono (he.run _ s σ H _ I ht) (fun v s' hv => ?_) fun x s' hx => k.exc _ x s' hx
  obtain ⟨x, H1, I1, rv, q⟩ := hv
  exact fun kap _ => k.yl v x ip s' σ H1 rv I1 q s₀ kap

/-- never reached -/
theorem gf_never : GF X st (fun _ _ _ => False) := ⟨fun _ _ _ _ _ _ _ _ _ _ _ _ _ _ _ _ _ _ h => h.elim⟩
theorem gfs_never : GFs X rest (fun _ _ _ => False) := ⟨fun _ _ _ _ _ _ _ _ _ _ _ _ _ _ _ _ _ _ h => h.elim⟩
/-! ### for -/
theorem fc_loop {A : Around} {c c' : Code} {fs : List Frame} {gd : Bool → Bool} {k : Result → Sem PySem.Fin} {l kp : List Value} {p : Pos} (g : FC X A c fs gd) (hw : c'.weight = 0) (hu : c'.cUnits = 0) :
    FC X A c' (.ret k none (gd false) l c p kp :: fs) id where
  over := (over_loop hw hu).trans g.over
  split := by
    show (splitAtGen fs).map _ = none
    rw [g.split]; rfl
  guard := by
    show (gd false || fs.any Frame.guarded) = false
    rw [g.gd, g.guard]; rfl
  gd := rfl
theorem segf_cameBack {ip : List (Addr × Obj)} {A : Around} {R : GenEnd} {Y : Protocol} {c : Code} {fs : List Frame} {K : Flow → Sem PySem.Fin} {J : Value → Sem PySem.Fin} {gd : Bool → Bool} {lv : List Value → List Value} {D : GE} {s₀ s : Shared} {e : Value}
    (g : FC X A c fs gd) (k : FK X ip A R Y c fs K J D) (h : cameBackBy (model X.prog X.w) X.A X.env X.xe e s) :
    Seg (model X.prog X.w) A R Y 1 s₀ c (((Sem.raise e : Sem Flow).onRaise (cameBack X.env)).wrap K J gd lv) fs s := by
  show Seg _ _ _ _ _ _ _ (((cameBack X.env e).bind fun _ => (Sem.raise e : Sem Flow)).wrap K J gd lv) _ _
  rw [Sem.bind_eq_wrap, Sem.wrap_wrap]
  refine seg_wrap ?_
  rw [g.over]
  exact wpAny_mono h (fun _ s' hx => k.exc s₀ e s' hx) fun x s' hx => k.exc s₀ x s' hx
/-- the loop's own code, at its call -/
abbrev kfor (X : Cx) (K : Flow → Sem PySem.Fin) (J : Value → Sem PySem.Fin) (gd : Bool → Bool) (lv : List Value → List Value) : Result → Sem PySem.Fin :=
  fun r => ((match r with | .ok f => (.pure f : Sem Flow) | .error e => .raise e).onRaise (cameBack X.env)).wrap K J gd lv
theorem seg_For {tg iter : Expr} {body : List Stmt} {A : Around} {R : GenEnd} {Y : Protocol} {s₀ s : Shared} {c : Code} {fs : List Frame} {K : Flow → Sem PySem.Fin} {J : Value → Sem PySem.Fin} {gd : Bool → Bool} {lv : List Value → List Value}
    (hs : ∀ x, foldedSetIterable iter X.env x = pure x)
    (h : wpAny (model X.prog X.w) (A.over c fs) (eval iter X.env) (fun v s1 => wpAny (model X.prog X.w) (A.over c fs) (pyIter v) (fun it s2 =>
      ∀ p, Seg (model X.prog X.w) A R Y 1 s₀ (.forLoop tg it body [] X.env) ((model X.prog X.w).den (.forLoop tg it body [] X.env)) (.ret (kfor X K J gd lv) none (gd false) (lv []) c p [] :: fs) s2)
      (fun x s' => Seg (model X.prog X.w) A R Y 1 s₀ c (J x) fs s') s1) (fun x s' => Seg (model X.prog X.w) A R Y 1 s₀ c (J x) fs s') s) :
    Seg (model X.prog X.w) A R Y 1 s₀ c ((exec (.For tg iter body [] pos) X.env).wrap K J gd lv) fs s := by
  show Seg _ _ _ _ 1 s₀ c (.at pos fun _ => (eval iter X.env >>= fun v => foldedSetIterable iter X.env v >>= fun x => (standAt iter.pos >>= fun _ => holding [x] (pyIter x) >>= fun it => runOwn (.forLoop tg it body [] X.env) X.env)).wrap K J gd lv) fs s
  refine seg_at ?_
  refine seg_bind_wrap (wpAny_mono h (fun v s1 h1 => ?_) fun _ _ h' => h')
  rw [hs v]
  refine seg_bind_wrap (wpAny_pure ?_)
  refine seg_at ?_
  show Seg _ _ _ _ 1 s₀ c ((holding [v] (pyIter v) >>= fun it => runOwn (.forLoop tg it body [] X.env) X.env).wrap K J gd lv) fs s1
  refine seg_bind_wrap (wpAny_holding (wpAny_mono h1 (fun it s2 h2 => ?_) fun _ _ h' => h'))
  exact seg_call h2
/-- one turn of a for -/
theorem seg_forTurn {tg : Expr} {it : Value} {body : List Stmt} {A : Around} {R : GenEnd} {Y : Protocol} {s₀ s : Shared} {fs : List Frame}
    (h : wpAny (model X.prog X.w) (A.over (.forLoop tg it body [] X.env) fs) (pyNext it) (fun r s1 => match r with
      | none => Seg (model X.prog X.w) A R Y 1 s₀ (.forLoop tg it body [] X.env) (.pure (.again (.block [] X.env))) fs s1
      | some v => wpAny (model X.prog X.w) (A.over (.forLoop tg it body [] X.env) fs) (letOwnedTupleGo tg it v) (fun _ s2 =>
          wpAny (model X.prog X.w) (A.over (.forLoop tg it body [] X.env) fs) (assign tg X.env v) (fun _ s3 => Seg (model X.prog X.w) A R Y 1 s₀ (.forLoop tg it body [] X.env) ((execs body X.env).wrap (fun f => match f with
            | .next | .cont => .pure (.again (.forLoop tg it body [] X.env))
            | .brk => .pure (.done .next)
            | .ret v => .pure (.done (.ret v))) (fun e => (do noteFrame e X.env; theTreesLotGoes e : Sem Unit).wrap (fun _ => .raise e) .raise id id) id id) fs s3)
            (fun x s' => Seg (model X.prog X.w) A R Y 1 s₀ (.forLoop tg it body [] X.env) ((do noteFrame x X.env; theTreesLotGoes x : Sem Unit).wrap (fun _ => .raise x) .raise id id) fs s') s2)
          (fun x s' => Seg (model X.prog X.w) A R Y 1 s₀ (.forLoop tg it body [] X.env) ((do noteFrame x X.env; theTreesLotGoes x : Sem Unit).wrap (fun _ => .raise x) .raise id id) fs s') s1)
      (fun x s' => Seg (model X.prog X.w) A R Y 1 s₀ (.forLoop tg it body [] X.env) ((do noteFrame x X.env; theTreesLotGoes x : Sem Unit).wrap (fun _ => .raise x) .raise id id) fs s') s) :
    Seg (model X.prog X.w) A R Y 1 s₀ (.forLoop tg it body [] X.env) ((model X.prog X.w).den (.forLoop tg it body [] X.env)) fs s := by
  show Seg _ A R Y 1 s₀ _ ((forTurn tg it body [] X.env).onRaise (fun x => do noteFrame x X.env; theTreesLotGoes x)) fs s
  rw [Sem.onRaise_eq_wrap]
  have eJ : (fun e => ((do noteFrame e X.env; theTreesLotGoes e : Sem Unit).bind fun _ => (.raise e : Sem PySem.Fin))) = fun e => (do noteFrame e X.env; theTreesLotGoes e : Sem Unit).wrap (fun _ => .raise e) .raise id id := funext fun e => Sem.bind_eq_wrap _ _
  rw [eJ]
  show Seg _ A R Y 1 s₀ _ (.at tg.pos fun _ => ((pyNext it).onRaise (fun _ => standAt { tg.pos with line := 0 }) >>= fun r => _).wrap _ _ id id) fs s
  refine seg_at ?_
  refine seg_bind_wrap (wpAny_onRaise (wpAny_mono h (fun r s1 h1 => ?_) fun _ _ h' => wpAny_standAt h'))
  cases r with
  | none => exact h1
  | some v =>
    refine seg_bind_wrap (wpAny_mono h1 (fun _ s2 h2 => ?_) fun _ _ h' => h')
    refine seg_bind_wrap (wpAny_mono h2 (fun _ s3 h3 => ?_) fun _ _ h' => h')
    rw [Sem.bind_eq_wrap', Sem.wrap_wrap]
    rw [Sem.wrap_congr (execs body X.env) _ _ (K' := fun f => match f with
            | .next | .cont => .pure (.again (.forLoop tg it body [] X.env))
            | .brk => .pure (.done .next)
            | .ret v => .pure (.done (.ret v))) (H' := (fun e => (do noteFrame e X.env; theTreesLotGoes e : Sem Unit).wrap (fun _ => .raise e) .raise id id))
        (fun f => by cases f <;> rfl) (fun e => by rfl)]
    exact h3
/-- the loop is done: its empty else -/
theorem seg_forDone {tg : Expr} {it : Value} {body : List Stmt} {A : Around} {R : GenEnd} {Y : Protocol} {s₀ s : Shared} {c c' : Code} {fs : List Frame} {k : Result → Sem PySem.Fin} {g : Bool} {l kp : List Value} {p : Pos}
    (h : Seg (model X.prog X.w) A R Y 1 s₀ c (k (.ok .next)) fs s) :
    Seg (model X.prog X.w) A R Y 1 s₀ c' (.pure (.again (.block [] X.env))) (.ret k none g l c p kp :: fs) s := by
  refine seg_again rfl ?_
  exact seg_leaf (.ok .next) h
theorem gf_for {tg iter : Expr} {body : List Stmt} {wi : TI} {g : TG} {tb : TF} (hp : PassesOwn (model X.prog X.w) X.A X.env X.xe) (hc : X.calm = true) (hi : PI X tg iter wi) (hg : PG X tg g) (hb : GFs X body tb)
    (hs : ∀ x, foldedSetIterable iter X.env x = pure x := by intro _; rfl) :
    GF X (.For tg iter body [] pos) (fun D σ H => wi σ H fun J H1 => ∃ W : Nat → Nat → L2.St → Hp → Prop, (∃ m, W 0 m σ H1) ∧ ∀ i m σ H, W i m σ H →
      (J.stop i H ∧ D.nx σ H) ∨ (J.go i H ∧ ∃ N : L2.St → Hp → Prop, (∀ σ' H', N σ' H' → ∃ m', m' < m ∧ W (i + 1) m' σ' H') ∧ ∀ x H', J.yld i H x H' → g x σ H' fun σ2 H2 => tb { D with nx := N, ct := N, bk := D.nx } σ2 H2)) := by
  refine ⟨fun A ip R Y s₀ c fs K J gd lv s σ H D g0 k I ht => ?_⟩
  refine seg_For hs ?_
  rw [g0.over]
  refine wpAny_mono (hi.run ip s σ H _ I ht) (fun v s1 h1 => wpAny_mono h1 (fun itv s2 h2 => ?_) fun x s' hx => k.exc s₀ x s' hx) fun x s' hx => k.exc s₀ x s' hx
  obtain ⟨it, fp, tn, Jt, H2, e, I2, T, st2, f2, W, ⟨m0, w0⟩, turn⟩ := h2
  subst e
  intro p
  have stat : ∀ {H' : Hp}, (∀ b ∈ fp, H' b = none) → ∀ b ∈ fp, FpOk X ip H' b := fun hn b hb => ⟨hn b hb, (f2 b hb).2⟩
  have gl := fc_loop (k := kfor X K J gd lv) (c' := .forLoop tg (.ref it) body [] X.env) (l := lv []) (kp := []) (p := p) g0 rfl rfl
  have loop : ∀ (m i : Nat) (s₀ s : Shared) (σ : L2.St) (H : Hp), Inv X ip σ H s → tn i s.heap → (∀ b ∈ fp, H b = none) → W i m σ H →
      Seg (model X.prog X.w) A R Y 1 s₀ (.forLoop tg (.ref it) body [] X.env) ((model X.prog X.w).den (.forLoop tg (.ref it) body [] X.env)) (.ret (kfor X K J gd lv) none (gd false) (lv []) c p [] :: fs) s := by
    intro m
    induction m using Nat.strongRecOn with
    | ind m ih =>
      intro i s₀ s3 σ3 H3 I3 st3 fr3 w3
      have ee : ∀ (s₀ : Shared) (x : Value) (s' : Shared), X.xe x s' → Seg (model X.prog X.w) A R Y 1 s₀ (.forLoop tg (.ref it) body [] X.env)
          ((do noteFrame x X.env; theTreesLotGoes x : Sem Unit).wrap (fun _ => .raise x) .raise id id) (.ret (kfor X K J gd lv) none (gd false) (lv []) c p [] :: fs) s' := fun s₀ x s' hx => by
        refine seg_wrap ?_
        rw [gl.over]
        refine wpAny_bind (wpAny_mono (hp x s' hx) (fun _ s'' hcb => wpAny_theTreesLotGoes ?_) fun y s'' hcb => ?_)
        · exact seg_leaf (.error x) (segf_cameBack g0 k hcb)
        · exact seg_leaf (.error y) (segf_cameBack g0 k hcb)
      refine seg_forTurn ?_
      rw [gl.over]
      rcases turn i m σ3 H3 w3 with ⟨stop, qn⟩ | ⟨go, N, hN, step⟩
      · refine wpAny_mono (T.done X rfl rfl rfl hc i ip s3 σ3 H3 X.xe I3 (stat fr3) st3 stop) (fun r s4 h4 => ?_) fun x s' hx => ee s₀ x s' hx
        obtain ⟨hr, I4⟩ := h4
        subst hr
        exact seg_forDone (tg := tg) (it := .ref it) (body := body) (k.ok s₀ s4 .next ⟨σ3, H3, I4, qn⟩)
      · refine wpAny_mono (T.item X rfl rfl rfl hc i ip s3 σ3 H3 X.xe I3 (stat fr3) st3 go) (fun r s4 h4 => ?_) fun x s' hx => ee s₀ x s' hx
        obtain ⟨u, hr, h4⟩ := h4
        subst hr
        refine wpAny_mono h4 (fun _ s5 h5 => ?_) fun x s' hx => ee s₀ x s' hx
        obtain ⟨x, H5, I5, r5, y5, st5, fr5⟩ := h5
        have I5' := I5.pinned (stat fr5) (T.obj _ _ st5)
        refine wpAny_mono (hg.run _ s5 σ3 H5 x u _ I5' r5 (step x H5 y5)) (fun _ s6 h6 => ?_) fun x s' hx => ee s₀ x s' hx
        obtain ⟨σ6, H6, I6, q6⟩ := h6
        have again : ∀ {s7 : Shared} {σ7 : L2.St} {H7 : Hp} (s₀' : Shared), Inv X (ip ++ pinsAt fp s5.heap) σ7 H7 s7 → N σ7 H7 → Seg (model X.prog X.w) A R Y 1 s₀' (.forLoop tg (.ref it) body [] X.env) (.pure (.again (.forLoop tg (.ref it) body [] X.env))) (.ret (kfor X K J gd lv) none (gd false) (lv []) c p [] :: fs) s7 := fun {s7 σ7 H7} s₀' I7 n7 => by
          obtain ⟨m', hm, w7⟩ := hN σ7 H7 n7
          refine seg_again rfl (ih m' hm (i + 1) s₀' s7 σ7 H7 I7.unpinned (T.keep _ _ _ st5 fun b hb o e => (I7.pin (b, o) (List.mem_append_right _ (List.mem_append_right _ (mem_pinsAt hb e)))).1) (fun b hb => ?_) w7)
          obtain ⟨o, e, d⟩ := T.obj _ _ st5 b hb
          exact (I7.pin (b, o) (List.mem_append_right _ (List.mem_append_right _ (mem_pinsAt hb e)))).2.1
        refine hb.run A (ip ++ pinsAt fp s5.heap) R Y s₀ _ _ _ _ id id s6 σ6 H6 { D with nx := N, ct := N, bk := D.nx } gl ⟨fun s₀' s7 f q7 => ?_, fun s₀' x s' hx => ee s₀' x s' hx, k.yl⟩ I6 q6
        cases f with
        | next => obtain ⟨σ7, H7, I7, n7⟩ := q7; exact again s₀' I7 n7
        | cont => obtain ⟨σ7, H7, I7, n7⟩ := q7; exact again s₀' I7 n7
        | brk => obtain ⟨σ7, H7, I7, n7⟩ := q7; exact seg_leaf (.ok .next) (k.ok s₀' s7 .next ⟨σ7, H7, I7.unpinned, n7⟩)
        | ret v => obtain ⟨x7, σ7, H7, I7, r7, n7⟩ := q7; exact seg_leaf (.ok (.ret v)) (k.ok s₀' s7 (.ret v) ⟨x7, σ7, H7, I7.unpinned, r7, n7⟩)
  exact loop m0 0 s₀ s2 σ H2 I2 st2 (fun b hb => (f2 b hb).1) w0
end

/-- the walk over a list that the block leaves as it is: by an invariant of the turn -/
theorem gwalk_list {K : PySem.W.Frag} {a : Addr} {xs : List V} {g : TG} {tb : TF} {D : GE} {σ : L2.St} {H : Hp} (Pv : Nat → L2.St → Hp → Prop) (first : Pv 0 σ H) (same : ∀ i σ H, Pv i σ H → SqL K H a xs)
    (turn : ∀ i x σ H, xs[i]? = some x → Pv i σ H → g x σ H fun σ2 H2 => tb { D with nx := Pv (i + 1), ct := Pv (i + 1), bk := D.nx } σ2 H2) (last : ∀ σ H, Pv xs.length σ H → D.nx σ H) :
    ∃ W : Nat → Nat → L2.St → Hp → Prop, (∃ m, W 0 m σ H) ∧ ∀ i m σ H, W i m σ H →
      ((Itl K a).stop i H ∧ D.nx σ H) ∨ ((Itl K a).go i H ∧ ∃ N : L2.St → Hp → Prop, (∀ σ' H', N σ' H' → ∃ m', m' < m ∧ W (i + 1) m' σ' H') ∧ ∀ x H', (Itl K a).yld i H x H' → g x σ H' fun σ2 H2 => tb { D with nx := N, ct := N, bk := D.nx } σ2 H2) := by
  refine ⟨fun i m σ H => m + i = xs.length ∧ Pv i σ H, ⟨xs.length, by omega, first⟩, fun i m σ H ⟨hm, pv⟩ => ?_⟩
  have hs := same i σ H pv
  cases m with
  | zero =>
    obtain rfl : i = xs.length := by omega
    exact .inl ⟨⟨xs, hs, Nat.le_refl _⟩, last σ H pv⟩
  | succ m =>
    have hi : i < xs.length := by omega
    refine .inr ⟨⟨xs, xs[i], hs, List.getElem?_eq_getElem hi⟩, Pv (i + 1), fun σ' H' pv' => ⟨m, Nat.lt_succ_self m, by omega, pv'⟩, fun x H' ⟨eH, hx⟩ => ?_⟩
    subst eH
    exact turn i x σ _ (hx xs hs) pv

/-! ### the generator itself -/
/-- the first item, or none: the arguments, the heap -/
abbrev Sp1 := List V → Hp → (Option V → Hp → Prop) → Prop
def REnd1 (P : Program) (w : World) (outer : List Env) (H : Hp) (s : Shared) (Q : Option V → Hp → Prop) : GenEnd := fun n s₀ r s1 =>
  (r = .ok (.ret .none) ∨ r = .ok .next) ∧ ∃ H', s1.os = s.os ∧ AllBare s1.gens ∧ Un (frs outer) [] H H' s.heap s1.heap ∧ HOk P w H' s1.heap ∧ Q none H'
def YItem1 (P : Program) (w : World) (outer : List Env) (H : Hp) (s : Shared) (Q : Option V → Hp → Prop) : Protocol := fun n s₀ v s1 kap =>
  ∃ x H', RelV x v ∧ s1.os = s.os ∧ AllBare s1.gens ∧ Un (frs outer) [] H H' s.heap s1.heap ∧ HOk P w H' s1.heap ∧ Q (some x) H'
/-- a generator that has not begun -/
def GMade1 (P : Program) (w : World) (k : Nat) (outer : List Env) (H : Hp) (s : Shared) (Q : Option V → Hp → Prop) (u : Value) (s' : Shared) : Prop :=
  ∃ (a : Addr) (g : Nat) (c : Code), u = .ref a ∧ s.heap.objs.size ≤ a ∧ a < s'.heap.objs.size ∧ s'.heap.IsGen a g ∧ s'.gens[g]? = some (.fresh c) ∧ s'.os = s.os ∧ AllBare s'.gens ∧ s'.heap.NoLimit ∧ (∀ b o, s.heap.get? b = some o → s'.heap.get? b = some o) ∧
    ∀ (A : Around) (s2 : Shared), Room k A → A.frames = some outer → (∀ b o, s'.heap.get? b = some o → s2.heap.get? b = some o) → s2.os = s.os → AllBare s2.gens →
      Seg (model P w) A (REnd1 P w outer H s Q) (YItem1 P w outer H s Q) 1 s2 c ((model P w).den c) [] s2
structure GFn1 (P : Program) (w : World) (K : PySem.W.Frag) (mg : Str → Option Value) (base : Heap) (k : Nat) (f : Addr) (fd : FuncData) (ps : List Str) (sp : Sp1) : Prop where
  len : ∀ vs H Q, sp vs H Q → vs.length = ps.length
  run : ∀ (A : Around) (outer : List Env) (s : Shared) (H : Hp) (args : Args) (us : List Value) (vs : List V) (Q : Option V → Hp → Prop), Room k A → Env0 P w K mg base A outer s H → BindsTo s fd args (ps.zip us) → Vals vs us → sp vs H Q →
    codeAny (model P w) A (.call (.ref f) args) (fun r s' => match r with | .ok (.ret u) => GMade1 P w k outer H s Q u s' | _ => False) s

/-- the context of the body: nothing is raised -/
abbrev fcx (P : Program) (w : World) (K : PySem.W.Frag) (mg : Str → Option Value) (base : Heap) (N : List Str) (qual : Str) (scope : Scope) (f : Addr) (cd : Value) (A : Around) (outer : List Env) (s : Shared) (H : Hp) : Cx :=
  gcxOf P w K mg base N qual scope f cd A outer s H (fun _ _ _ => False) []

theorem gfn1_of {P : Program} {w : World} {K : PySem.W.Frag} {mg : Str → Option Value} {base : Heap} {k : Nat} {f : Addr} {name qual : Str} {params : Arguments} {body : List Stmt} {scope : Scope} {dV kV doc pm cdv ct oc : Value} {an od : Option Addr}
    {osl : Array (Option Value)} {N ps : List Str} {sp : Sp1} (lk : K.lookup f = some ⟨oc, od, .func (PySem.W.fnOf name qual params body scope dV kV doc pm an cdv ct), osl⟩) (hcd : PySem.W.codeIn K cdv qual = true) (S : GScope N ps scope)
    (len : ∀ vs H Q, sp vs H Q → vs.length = ps.length)
    (hbody : ∀ (A : Around) (outer : List Env) (s : Shared) (H : Hp) (vs : List V) (Q : Option V → Hp → Prop), Room k (A.deeper (envOfC qual scope s.heap.objs.size f cdv)) → sp vs H Q →
      ∃ t, GFs (fcx P w K mg base N qual scope f cdv A outer s H) body t ∧ t { nx := fun _ H' => Q none H', rt := fun v H' => v = .non ∧ Q none H', yl := fun x H' => Q (some x) H' } (start N vs) H) :
    GFn1 P w K mg base (k + 1) f (PySem.W.fnOf name qual params body scope dV kV doc pm an cdv ct) ps sp := by
  refine ⟨len, fun A outer s H args as_ vs Q room env0 hb rr hsp => ?_⟩
  have len0 := len _ _ _ hsp
  have kin0 : K.In s.heap := env0.mod.kin.keeps fun b o e => (env0.bs b o e).1
  have nl0 : s.heap.NoLimit := env0.mod.nolimit.keeps fun b o e => (env0.bs b o e).1
  have kinds : ∀ y ∈ ps.zip as_, scope.names.lookup y.1 = some .local ∨ (scope.names.lookup y.1 = some .cell ∧ ((cellsFrom (s.heap.objs.size + 1) scope.names []).lookup y.1).isSome = true) := fun ⟨n, v⟩ hy => by
    rcases S.par n (List.of_mem_zip hy).1 with q | q
    · exact .inl q
    · exact .inr ⟨q, PySem.W.cellsFrom_some _ _ _ (.inl q)⟩
  refine codeAny_call_generator room.depth (kin0 _ _ lk) rfl S.co S.gen rfl (PySem.W.codeRec_of kin0 hcd) (hb _ _ _ _ ?_)
  refine wpAny_newFunctionEnv_cells S.kind kinds fun env he sA x => ?_
  subst he
  have nlA : sA.heap.NoLimit := nl0.keeps x.toInCall.keep
  refine ⟨nlA, ?_⟩
  obtain ⟨hA, tk, esA, hkA⟩ := x.done
  have osA : sA.os = s.os := by rw [esA]
  have gnA : sA.gens = s.gens := by rw [esA]
  have ltA : s.heap.objs.size < sA.heap.objs.size := x.toInCall.ns.lt
  have szA : s.heap.objs.size ≤ sA.heap.objs.size := Nat.le_of_lt ltA
  have kpA : ∀ b o, s.heap.get? b = some o → sA.heap.get? b = some o := x.toInCall.keep
  have made : ∀ (go : Obj) (nm qn : Value) (tk2 : Nat), go.cls = .type "generator" → go.data = .fields #[.int sA.gens.size 0, nm, qn] → go.slots = #[] → (∀ h : Heap, (h.push go).get? h.objs.size = some go) →
      GMade1 P w (k + 1) outer H s Q (.ref sA.heap.objs.size) { sA with gens := sA.gens.push (.fresh (.func body (envOfC qual scope s.heap.objs.size f cdv))), toks := tk2, heap := sA.heap.push go } := by
    intro go nm qn tk2 goC goD goS goP
    have isG : ∀ h : Heap, h.get? sA.heap.objs.size = some go → h.IsGen sA.heap.objs.size sA.gens.size := fun h e => ⟨go, nm, qn, e, goC, goD, goS⟩
    have atNew : (sA.heap.push go).get? sA.heap.objs.size = some go := goP _
    refine ⟨sA.heap.objs.size, sA.gens.size, _, rfl, szA, ?_, isG _ atNew, Array.getElem?_push_size .., osA, ?_, nlA.keeps fun b o e => Heap.get?_push_of_some _ e, fun b o e => Heap.get?_push_of_some _ (kpA b o e), ?_⟩
    · show _ < (sA.heap.push _).objs.size
      rw [Heap.size_push]; exact Nat.lt_succ_self _
    · exact AllBare.push (by rw [gnA]; exact env0.bare) rfl
    intro Aw sB hrw hfr hk2 hos hba
    have e0B : Env0 P w K mg base Aw outer s H := ⟨hfr, env0.mod, env0.bs, env0.bsz, env0.funs, env0.frf, env0.hok, env0.bare⟩
    obtain ⟨t, ht, hq⟩ := hbody Aw outer s H vs Q (hrw.deeper _) hsp
    have IA : Inv (fcx P w K mg base N qual scope f cdv Aw outer s H) [] (start N vs) H sA := inv_startG S hrw.hd e0B len0 rr x
    have kpB : ∀ b o, sA.heap.get? b = some o → sB.heap.get? b = some o := fun b o e => hk2 b o (Heap.get?_push_of_some _ e)
    have IB : Inv (fcx P w K mg base N qual scope f cdv Aw outer s H) [] (start N vs) H sB :=
      IA.call' (ch := []) (hos.trans osA.symm) (Un.kept kpB) (IA.hok.kept kpB) hba fun b z => by simp at z
    refine seg_func ?_
    refine ht.run Aw [] _ _ sB _ [] _ _ id id sB (start N vs) H _ ⟨over_func, rfl, rfl, rfl⟩ ⟨fun s₀ s' fl hs => ?_, fun s₀ e s' hx => ?_, fun v x ip' s' σ' H' rv I' q s₀ kap => ?_⟩ IB hq
    · cases fl with
      | next =>
        obtain ⟨σ', H', J, hQ⟩ := hs
        exact seg_end (.ok (.ret .none)) ⟨.inl rfl, H', J.os, J.bare, J.base, J.hok, hQ⟩
      | brk => obtain ⟨_, _, _, q⟩ := hs; exact False.elim q
      | cont => obtain ⟨_, _, _, q⟩ := hs; exact False.elim q
      | ret u =>
        obtain ⟨v, σ', H', J, rv, ev, hQ⟩ := hs
        subst ev
        have eu : u = Value.none := rv
        subst eu
        exact seg_end (.ok (.ret .none)) ⟨.inl rfl, H', J.os, J.bare, J.base, J.hok, hQ⟩
    · refine seg_wrap ?_
      rw [over_func]
      refine wpAny_mono (show wpAny (model P w) (Aw.deeper (envOfC qual scope s.heap.objs.size f cdv)) (leaving (envOfC qual scope s.heap.objs.size f cdv) e) (fun _ s'' => CX P w outer H s (fun _ _ _ => False) e s'' ∧ ∀ p ∈ ([] : List (Addr × Obj)), s''.heap.get? p.1 = some p.2) (fun _ _ => False) s' from hx) (fun _ s'' q => ?_) fun _ s'' q => q.elim
      obtain ⟨⟨_, _, _, _, _, _, _, _, _, _, _, _, q⟩, _⟩ := q
      exact q.elim
    · exact ⟨x, H', rv, I'.os, I'.bare, I'.base, I'.hok, q⟩
  exact made _ _ _ _ rfl rfl rfl fun h => Heap.get?_push_size _ rfl

/-! ### a for over such a generator, left at its first turn -/
abbrev TGen1 := L2.St → Hp → (Option V → Hp → Prop) → Prop
structure PGen1 (X : Cx) (k : Nat) (e : Expr) (tg : TGen1) : Prop where
  run : ∀ (pins : List (Addr × Obj)) (s : Shared) (σ : L2.St) (H : Hp) (cont : Option V → Hp → Prop), Inv X pins σ H s → tg σ H cont → wpAny (model X.prog X.w) X.A (eval e X.env)
    (fun u s' => ∃ H1 sc, Inv X pins σ H1 sc ∧ GMade1 X.prog X.w k X.stack H1 sc cont u s') X.xe s
section
variable {X : Cx} {k : Nat} {f : Addr} {fd : FuncData} {ps : List Str} {sp : Sp1} {dvs : List V} {ds : List Value} {x : Str} {p pos pos' : Pos}
def tCall1 (sp : Sp1) (dvs : List V) (t : TA) : TGen1 := fun σ H cont => t σ H fun vs H1 => sp (vs ++ dvs) H1 cont
theorem run_gfn1 {pins : List (Addr × Obj)} {σ : L2.St} {H : Hp} {s : Shared} {us : List Value} {vs : List V} {cont : Option V → Hp → Prop} {E1 : Value → Shared → Prop} (F : GFn1 X.prog X.w X.K X.mg X.base k f fd ps sp) (hr : Room k X.A) (hb : Binds X.K fd ps ds) (hd : Vals dvs ds)
    (I : Inv X pins σ H s) (r : Vals vs us) (h : sp (vs ++ dvs) H cont) :
    wpAny (model X.prog X.w) X.A (call (.ref f) us) (fun u s' => ∃ H1 sc, Inv X pins σ H1 sc ∧ GMade1 X.prog X.w k X.stack H1 sc cont u s') E1 s := by
  have r2 : Vals (vs ++ dvs) (us ++ ds) := r.append hd
  have hl2 : (us ++ ds).length = ps.length := by rw [← r2.length]; exact F.len _ _ _ h
  refine wpAny_call (codeAny_mono (F.run X.A X.stack s H ⟨us, []⟩ (us ++ ds) (vs ++ dvs) cont hr I.env0 (hb s us I.kIn hl2) r2 h) fun r s' hq => ?_)
  cases r with
  | error e => exact False.elim hq
  | ok fl =>
    cases fl with
    | ret u => exact ⟨H, s, I, hq⟩
    | next => exact False.elim hq
    | brk => exact False.elim hq
    | cont => exact False.elim hq
/-- f(e, ..) of a generator def -/
theorem pgen1_call {e : Expr} {es : List Expr} {t : TA} (F : GFn1 X.prog X.w X.K X.mg X.base k f fd ps sp) (hr : Room k X.A) (hg : Gl X x) (hm : X.mg x = some (.ref f)) (hk : PySem.W.keepIn X.K (.ref f) = true) (hb : Binds X.K fd ps ds) (hd : Vals dvs ds)
    (ha : PA X (e :: es) t) (hdb : (x == ("__debug__" : Str)) = false := by decide) (he : starEach (e :: es) X.env = (false, eval e X.env) :: starEach es X.env := by rfl) (hpl : (backTo pos' (starEach es X.env)).any (·.1) = false := by rfl) :
    PGen1 X k (.Call (.Name x p) (e :: es) [] pos') (tCall1 sp dvs t) := by
  refine ⟨fun pins s σ H cont I h => ?_⟩
  refine wpAny_Call_Name_kw (ld_glob I hg hm ?_ hdb)
  refine PySem.W.callWith_K (h₀ := X.base) I.ok.mod.kin hk (thn (ha.run pos' pins s σ H _ I h) fun us s1 ⟨vs, H1, I1, r, q⟩ => ⟨I1.kIn, ?_⟩) he hpl
  exact run_gfn1 F hr hb hd I1 r q
/-- next of a generator that has not begun -/
theorem next_made {pins : List (Addr × Obj)} {σ : L2.St} {H1 : Hp} {sc s1 : Shared} {cont : Option V → Hp → Prop} {u : Value} {A : Around} {Q : Option Value → Shared → Prop} {E : Value → Shared → Prop}
    (I : Inv X pins σ H1 sc) (hh : A.handled = none) (hr : Room (k + 1) A) (hfr : A.frames = some X.stack) (h : GMade1 X.prog X.w k X.stack H1 sc cont u s1)
    (hN : ∀ s' H', Inv X pins σ H' s' → cont none H' → Q none s') (hS : ∀ v x s' H', RelV x v → Inv X pins σ H' s' → cont (some x) H' → Q (some v) s') :
    wpAny (model X.prog X.w) A (pyNext u) Q E s1 := by
  obtain ⟨a, g, c, rfl, ha1, ha2, hg, hgs, hos, hb, hl, hkp, wake⟩ := h
  have hgc : ∀ b o, sc.heap.get? b = some o → s1.heap.get? b = some o := hkp
  have I1 : Inv X pins σ H1 s1 := I.call' (ch := []) hos (Un.kept hkp) (I.hok.kept hkp) hb fun b z => by simp at z
  have hd : A.depth < recursionLimit := by have := hr.dp; show A.depth < _; omega
  -- the generator's own object stands apart from what is tracked
  have hHa : H1 a = none := I.hok.fresh ha1
  obtain ⟨og, nm, qn, hog, hogc, hogd, hogs⟩ := hg
  refine next_genG (n := 1) (gs := .fresh c) (F := fun n s₀ s₁ => ∃ H', s₁.os = sc.os ∧ AllBare s₁.gens ∧ Un (frs X.stack) [] H1 H' sc.heap s₁.heap ∧ HOk X.prog X.w H' s₁.heap ∧ cont none H') (Er := fun _ _ => False) (Y := YItem1 X.prog X.w X.stack H1 sc cont)
    hh hl hd ⟨og, nm, qn, hog, hogc, hogd, hogs⟩ hgs ⟨rfl, ?_⟩ (fun v s₁ gs' hbare hv => ?_) (fun s₁ hp h' hk => ?_) fun e s₁ he => he.elim
  · refine seg_imp (R := REnd1 X.prog X.w X.stack H1 sc cont) (Y := YItem1 X.prog X.w X.stack H1 sc cont) (fun n s₀ r s1' hR => .inl hR) (fun n s₀ v s1' kap kap' hkk hY => hY) 1 ?_
    refine wake A.in1 (s1.setGen g .running) ⟨hr.hd, ?_, ?_⟩ hfr (fun b o e => e) hos (allBare_setGen hb rfl)
    · have := hr.dp
      show A.depth + 3 * k + 5 < _
      omega
    · have := hr.un
      show A.units + 1 + 16 * k + 200 < _
      omega
  · obtain ⟨x, H', rv, os1, hb1, un, hok, hq⟩ := hv
    have J : Inv X pins σ H' (s₁.setGen g gs') := I.call' (ch := []) os1 un hok (allBare_setGen hb1 hbare) fun b z => by simp at z
    exact hS v x _ H' rv J hq
  · obtain ⟨H', os1, hb1, un, hok, hq⟩ := hp
    have J : Inv X pins σ H' { s₁.setGen g .finished with heap := h' } := I.call' (ch := []) os1 (un.trans (Un.kept hk)) (hok.kept hk) (allBare_setGen hb1 rfl) fun b z => by simp at z
    exact hN _ H' J hq
theorem made_iter {P : Program} {w : World} {k : Nat} {outer : List Env} {H : Hp} {sc s : Shared} {cont : Option V → Hp → Prop} {u : Value} {A : Around} {Q : Value → Shared → Prop} {E : Value → Shared → Prop} (h : GMade1 P w k outer H sc cont u s) (hQ : Q u s) : wpAny (model P w) A (pyIter u) Q E s := by
  obtain ⟨a, g, c, rfl, _, _, hg, _⟩ := h
  exact wpAny_pyIter_gen hg hQ
abbrev noEnd : L2.St → Hp → Prop := fun _ _ => False
/-- for x in g: the body leaves at the first turn -/
theorem ps_forG {tg iter : Expr} {body : List Stmt} {wg : TGen1} {g : TG} {tb : TS} (hp : PassesOwn (model X.prog X.w) X.A X.env X.xe) (hc : X.calm = true) (hi : PGen1 X k iter wg) (hr : Room (k + 1) X.A) (hg : PG X tg g) (hb : PSs X body tb)
    (hs : ∀ x, foldedSetIterable iter X.env x = pure x := by intro _; rfl) (hgo : ∀ it v, letOwnedTupleGo tg it v = pure () := by intro _ _; rfl) :
    PS X (.For tg iter body [] pos) (fun D σ H => wg σ H fun r H1 => match r with
      | none => D.nx σ H1
      | some x => g x σ H1 fun σ2 H2 => tb { D with nx := noEnd, ct := noEnd, bk := D.nx } σ2 H2) := by
  refine ⟨fun pins s σ H D I h => ?_⟩
  refine wpAny_For (thn (hi.run pins s σ H _ I h) fun u s1 ⟨H1, sc, I1, G⟩ => made_iter G ?_) hs
  refine codeAny_forLoop_any (fun n s' => s' = s1) ?_ 0 rfl
  rintro n s3 rfl
  refine wpAny_passesOwn hp (next_made I1 (I1.ok.hd hc) hr I1.ok.frames G (fun s' H' I' q => ?_) fun v x s' H' rv I' q => ?_)
  · exact wpAny_execs_nil ⟨σ, H', I', q⟩
  · refine wpAny_of_eq (hgo _ v) ?_
    refine wpAny_passesOwn hp (thn (hg.run pins s' σ H' x v _ I' rv q) fun _ s6 ⟨σ6, H6, I6, q6⟩ => ?_)
    refine wpAny_passesOwn hp (thn (hb.run pins s6 σ6 H6 _ I6 q6) fun f s7 q7 => ?_)
    cases f with
    | next => obtain ⟨σ7, H7, I7, n7⟩ := q7; exact n7.elim
    | cont => obtain ⟨σ7, H7, I7, n7⟩ := q7; exact n7.elim
    | brk => exact q7
    | ret v => exact q7
/-- the same in such a generator's body -/
theorem gf_forG {tg iter : Expr} {body : List Stmt} {wg : TGen1} {g : TG} {tb : TF} (hp : PassesOwn (model X.prog X.w) X.A X.env X.xe) (hc : X.calm = true) (hi : PGen1 X k iter wg) (hr : Room (k + 1) X.A) (hg : PG X tg g) (hb : GFs X body tb)
    (hs : ∀ x, foldedSetIterable iter X.env x = pure x := by intro _; rfl) (hgo : ∀ it v, letOwnedTupleGo tg it v = pure () := by intro _ _; rfl) :
    GF X (.For tg iter body [] pos) (fun D σ H => wg σ H fun r H1 => match r with
      | none => D.nx σ H1
      | some x => g x σ H1 fun σ2 H2 => tb { D with nx := noEnd, ct := noEnd, bk := D.nx } σ2 H2) := by
  refine ⟨fun A ip R Y s₀ c fs K J gd lv s σ H D g0 k0 I ht => ?_⟩
  refine seg_For hs ?_
  rw [g0.over]
  refine wpAny_mono (hi.run ip s σ H _ I ht) (fun u s1 h1 => ?_) fun x s' hx => k0.exc s₀ x s' hx
  obtain ⟨H1, sc, I1, G⟩ := h1
  refine made_iter G ?_
  intro p
  have gl := fc_loop (k := kfor X K J gd lv) (c' := .forLoop tg u body [] X.env) (l := lv []) (kp := []) (p := p) g0 rfl rfl
  have ee : ∀ (s₀ : Shared) (x : Value) (s' : Shared), X.xe x s' → Seg (model X.prog X.w) A R Y 1 s₀ (.forLoop tg u body [] X.env)
      ((do noteFrame x X.env; theTreesLotGoes x : Sem Unit).wrap (fun _ => .raise x) .raise id id) (.ret (kfor X K J gd lv) none (gd false) (lv []) c p [] :: fs) s' := fun s₀ x s' hx => by
    refine seg_wrap ?_
    rw [gl.over]
    refine wpAny_bind (wpAny_mono (hp x s' hx) (fun _ s'' hcb => wpAny_theTreesLotGoes ?_) fun y s'' hcb => ?_)
    · exact seg_leaf (.error x) (segf_cameBack g0 k0 hcb)
    · exact seg_leaf (.error y) (segf_cameBack g0 k0 hcb)
  refine seg_forTurn ?_
  rw [gl.over]
  refine next_made I1 (I1.ok.hd hc) hr I1.ok.frames G (fun s' H' I' q => ?_) fun v x s' H' rv I' q => ?_
  · exact seg_forDone (tg := tg) (it := u) (body := body) (k0.ok s₀ s' .next ⟨σ, H', I', q⟩)
  · refine wpAny_of_eq (hgo _ v) ?_
    refine wpAny_mono (hg.run ip s' σ H' x v _ I' rv q) (fun _ s6 h6 => ?_) fun x s' hx => ee s₀ x s' hx
    obtain ⟨σ6, H6, I6, q6⟩ := h6
    refine hb.run A ip R Y s₀ _ _ _ _ id id s6 σ6 H6 { D with nx := noEnd, ct := noEnd, bk := D.nx } gl ⟨fun s₀' s7 f q7 => ?_, fun s₀' x s' hx => ee s₀' x s' hx, k0.yl⟩ I6 q6
    cases f with
    | next => obtain ⟨σ7, H7, I7, n7⟩ := q7; exact n7.elim
    | cont => obtain ⟨σ7, H7, I7, n7⟩ := q7; exact n7.elim
    | brk => obtain ⟨σ7, H7, I7, n7⟩ := q7; exact seg_leaf (.ok .next) (k0.ok s₀' s7 .next ⟨σ7, H7, I7, n7⟩)
    | ret v => obtain ⟨x7, σ7, H7, I7, r7, n7⟩ := q7; exact seg_leaf (.ok (.ret v)) (k0.ok s₀' s7 (.ret v) ⟨x7, σ7, H7, I7, r7, n7⟩)
end
end FsG

set_option Elab.async false
set_option linter.all false
set_option maxRecDepth 100000
set_option maxHeartbeats 2000000
/-! sorted(e, key=lambda row: (len(row), row)) of tuples of whole numbers -/
namespace FsG
open PySem PySem.Spec PyProof.Rows L2 PySem.W LamX

/-- the key of a row -/
def keyR (r : List Int) : PyData := .tuple [.int (r.length : Nat), .tuple (r.map PyData.int)]
/-- v is a tuple of these whole numbers, in the heap -/
def RowV (h : Heap) (v : Value) (r : List Int) : Prop := ∃ (a : Addr) (its : Array Value), v = .ref a ∧ IsTup h a its ∧ IntsAre its.toList r
theorem reads_ints {h : Heap} : ∀ {vs : List Value} {ns : List Int}, IntsAre vs ns → ReadsAll h vs (ns.map PyData.int) []
  | [], [], _ => .nil
  | v :: vs, n :: ns, hI => by
    obtain ⟨⟨t, e⟩, r⟩ : (∃ t, v = .int n t) ∧ IntsAre vs ns := by
      cases hI
      exact ⟨⟨_, rfl⟩, by assumption⟩
    subst e
    exact .cons (as := []) (bs := []) (.int n t) (reads_ints r)
  | [], _ :: _, hI => by cases hI
  | _ :: _, [], hI => by cases hI
theorem RowV.reads {h : Heap} {v : Value} {r : List Int} (x : RowV h v r) : Reads h v (.tuple (r.map PyData.int)) [] := by
  obtain ⟨a, its, rfl, ⟨o, ho, hc, n, hd⟩, hi⟩ := x
  exact .tuple ho hc hd (reads_ints hi)
theorem RowV.keep {h h' : Heap} {v : Value} {r : List Int} (k : ∀ b o, h.get? b = some o → h'.get? b = some o) (x : RowV h v r) : RowV h' v r := by
  obtain ⟨a, its, rfl, ⟨o, ho, q⟩, hi⟩ := x
  exact ⟨a, its, rfl, ⟨o, k _ _ ho, q⟩, hi⟩

/-- the lambda's text -/
structure LamR (qual : Str) (params : Arguments) (body : Expr) (scope : Scope) : Prop where
  kind : scope.kind = .function
  co : scope.isCoroutine = false
  gen : scope.isGenerator = false
  nocell : ∀ y ∈ scope.names, y.2 ≠ .cell
  nofree : ∀ y ∈ scope.names, y.2 ≠ .free
  text : ∃ (a : Str) (p1 p2 p3 p4 p5 : Pos) (x5 : Nat), body = .Tuple [.Call (.Name "len" p1) [.Name a p2] [] p3, .Name a p4] x5 p5 ∧ scope.names.lookup a = some .local ∧ scope.names.lookup ("len" : Str) = some .globalImplicit ∧ (a == ("__debug__" : Str)) = false ∧
    ∀ (pm ctv cv : Value) (v : Value), bindArgs (kla_fn "<lambda>" qual params body scope [] pm cv ctv) ⟨[v], []⟩ = pure [(a, v)]
section
variable {prog : Program} {w : World} {A : Around} {s1 : Shared} {f c' : Addr} {qual : Str} {params : Arguments} {body : Expr} {scope : Scope} {pm ctv v : Value} {r : List Int} {mg mb : Str → Option Value}
/-- the lambda is called -/
theorem lam_turn (L : LamR qual params body scope) (ho : s1.heap.get? f = some (kla_obj "<lambda>" qual params body scope [] pm c' ctv)) (hcd : s1.heap.CodeRec (.ref c') qual) (hroom : A.depth < recursionLimit) (lim : s1.heap.NoLimit)
    (hG : s1.heap.Ns mainGlobals mg) (hlen : mg "len" = none) (hB : s1.heap.Ns builtinsNs mb) (hb : mb "len" = some (.builtin "len")) (hv : RowV s1.heap v r) (hr : r.length ≤ sizeLine) :
    wpAny (model prog w) A (call (.ref f) [v]) (KeyPure (keyR r) s1) (fun _ _ => False) s1 := by
  obtain ⟨a, p1, p2, p3, p4, p5, x5, eb, ha, hl, hdb, hbind⟩ := L.text
  have rc : codeAny (model prog w) A (.call (.ref f) ⟨[v], []⟩) (fun r' s' => ∃ u, r' = .ok (.ret u) ∧ KeyPure (keyR r) s1 u s') s1 := by
    refine kla_callFunE hroom ho rfl L.co L.gen rfl hcd ?_
    rw [hbind]
    refine wpAny_pure (wpAny_newFunctionEnv L.nocell (fun y hy => ?_) (fun h₁ hns hsb => ⟨lim.fresh _ hsb, ?_⟩) L.kind)
    · rw [List.mem_singleton.mp hy]
      exact ha
    show codeAny _ _ (.expr body (envX qual scope s1.heap.objs.size f (.ref c') [])) _ _
    have kp : ∀ b o, s1.heap.get? b = some o → h₁.get? b = some o := fun b o e => hsb.extBut b o (Nat.ne_of_lt (Heap.lt_size e)) (Heap.get?_push_of_some _ e)
    have hG1 : h₁.Ns mainGlobals mg := hG.keeps kp
    have hB1 : h₁.Ns builtinsNs mb := hB.keeps kp
    have hrow : (envX qual scope s1.heap.objs.size f (.ref c') []).kindOf a = some .local := ha
    have hlk : (envX qual scope s1.heap.objs.size f (.ref c') []).kindOf ("len" : Str) = some .globalImplicit := hl
    have hm : ([(a, v)] : List (Str × Value)).reverse.lookup a = some v := by simp
    refine kla_codeExpr ?_
    rw [eb]
    obtain ⟨t, its, rfl, ht, hi⟩ := hv
    have ht1 : IsTup h₁ t its := by
      obtain ⟨o, e, q⟩ := ht
      exact ⟨o, kp _ _ e, q⟩
    have hsz : its.size = r.length := by
      have := hi.length
      rw [Array.length_toList] at this
      exact this
    refine wpAny_Tuple_spliced ?_
    show wpAny _ _ (spliced ((false, eval (.Call (.Name "len" p1) [.Name a p2] [] p3) _) :: (false, eval (.Name a p4) _) :: [])) _ _ _
    refine Calls.spliced_cons ?_
    refine wpAny_Call_Name_kw (Calls.Name_function_global L.kind hlk (Calls.loadGlobal_builtin hG1 hlen hB1 hb ?_) (by decide))
    refine PyProof.Rows.callWith_builtin1 ?_ rfl rfl
    show wpAny _ _ (spliced ((false, eval (.Name a p2) _) :: [])) _ _ _
    refine Calls.spliced_cons (wpAny_Name (wpAny_loadName_local L.kind hrow hns hm ?_) hdb)
    refine Calls.spliced_nil ?_
    refine len_tuple ht1 (by have := line63; omega) ?_
    refine Calls.spliced_cons (wpAny_Name (wpAny_loadName_local L.kind hrow hns hm ?_) hdb)
    refine Calls.spliced_nil ⟨(show 2 ≤ sizeLine by decide), _, rfl, _, _, rfl, fun b o e => Heap.get?_push_of_some _ (kp b o e), ?_⟩
    unfold keyR
    rw [← hsz]
    refine .tuple (Heap.get?_push_size _ rfl) rfl rfl (.cons (as := []) (bs := []) (.int _ _) (.cons (as := []) (bs := []) ?_ .nil))
    exact (RowV.reads (h := h₁.push _) ⟨t, its, rfl, (by obtain ⟨o, e, q⟩ := ht1; exact ⟨o, Heap.get?_push_of_some _ e, q⟩), hi⟩)
  refine wpAny_call (codeAny_mono rc fun r' s' hq => ?_)
  obtain ⟨u, rfl, q⟩ := hq
  exact q
end
theorem alike_ints : ∀ xs ys : List Int, alikeAll (xs.map PyData.int) (ys.map PyData.int) = true
  | [], _ => by simp [alikeAll]
  | _ :: _, [] => by simp [alikeAll]
  | x :: xs, y :: ys => by
    have h := alike_ints xs ys
    simp only [List.map_cons, alikeAll, alike, Bool.true_and]
    exact h
theorem alike_keyR (r q : List Int) : alike (keyR r) (keyR q) = true := by
  unfold keyR
  simp only [alike, alikeAll, Bool.true_and, Bool.and_true]
  exact alike_ints r q
theorem depth_ints : ∀ xs : List Int, PyData.depthAll (xs.map PyData.int) ≤ 1
  | [] => by simp [PyData.depthAll]
  | x :: xs => by
    have h := depth_ints xs
    simp only [List.map_cons, PyData.depthAll, PyData.depth]
    omega
theorem depth_keyR (r : List Int) : (keyR r).depth ≤ 5 := by
  have h := depth_ints r
  unfold keyR
  simp only [PyData.depth, PyData.depthAll]
  omega
theorem each_of_vals : ∀ {xs : List V} {us : List Value}, Vals xs us → EachIs (fun u x => RelV x u) us xs
  | _, _, .nil => .nil
  | _, _, .cons r t => .cons r (each_of_vals t)
theorem vals_of_each : ∀ {us : List Value} {xs : List V}, EachIs (fun u x => RelV x u) us xs → Vals xs us
  | _, _, .nil => .nil
  | _, _, .cons r t => .cons r (vals_of_each t)
/-- the rows by their lengths, then themselves -/
def leR : List Int → List Int → Bool := dataLe false keyR
section
variable {X : Cx} {e : Expr} {te : TE} {T : List (Addr × Str)} {c P : Addr} {params : Arguments} {body : Expr} {scope : Scope} {lpos kpos p pos : Pos}
def tSortLR (T : List (Addr × Str)) (te : TE) : TE := fun σ H Q => te σ H fun x H1 => ∃ (l : Addr) (xs : List V) (rowf : V → List Int), x = .ref l ∧ H1 l = some (.lst xs) ∧ (∀ y ∈ xs, ∃ a, y = .ref a ∧ H1 a = some (.tup ((rowf y).map V.int))) ∧ Tabs T H1 ∧
  ∀ (H2 : Hp) (ys : List V) (q : Addr), ExtN H1 H2 → Tabs T H2 → ys.Perm xs → ys.map rowf = (xs.map rowf).mergeSort leR → H2 q = none → Q (.ref q) (upd H2 q (.lst ys))
theorem pe_sortLR (he : PE X e te) (hg : Gl X "sorted") (hm : X.mg "sorted" = none) (hlen : X.mg "len" = none) (TB : TabB X.base X.mg c P) (hcode : X.env.code = .ref c) (hmT : (P, X.env.qual ++ "<lambda>") ∈ T) (hu : ∀ p ∈ T, p.1 = P → p.2 = X.env.qual ++ "<lambda>")
    (L : LamR (X.env.qual ++ "<lambda>") params body scope) (hdef : defaultsOf params X.env = ([], [])) (hcl : cloFrom X.env.cells scope.names [] = []) (hr : Room 3 X.A)
    (hs : starEach [e] X.env = (false, eval e X.env) :: starEach [] X.env := by rfl) (hs2 : backTo pos (starEach [e] X.env) = (false, eval e X.env) :: backTo pos (starEach [] X.env) := by rfl) (hpl : (backTo pos (starEach [e] X.env)).any (·.1) = false := by rfl) :
    PE X (.Call (.Name "sorted" p) [e] [⟨some "key", .Lambda params body scope lpos, kpos⟩] pos) (tSortLR T te) := by
  refine ⟨fun pins s σ H Q I h => ?_⟩
  refine wpAny_Call_Name_kw (ld_blt I hg hm boot_sorted ?_ (by decide) (by decide))
  refine PyProof.Rows.callWith_kw (thn ((pa_cons he pa_nil hs).run pos pins s σ H (fun vs H1 => match vs with
    | [x] => ∃ (l : Addr) (xs : List V) (rowf : V → List Int), x = .ref l ∧ H1 l = some (.lst xs) ∧ (∀ y ∈ xs, ∃ a, y = .ref a ∧ H1 a = some (.tup ((rowf y).map V.int))) ∧ Tabs T H1 ∧
        ∀ (H2 : Hp) (ys : List V) (q : Addr), ExtN H1 H2 → Tabs T H2 → ys.Perm xs → ys.map rowf = (xs.map rowf).mergeSort leR → H2 q = none → Q (.ref q) (upd H2 q (.lst ys))
    | _ => False) I h) fun us s1 ⟨vs, H1, I1, r1, q1⟩ => ?_) hs2 hpl rfl rfl
  obtain ⟨x, rfl⟩ : ∃ x, vs = [x] := by
    cases vs with
    | nil => exact q1.elim
    | cons x r =>
      cases r with
      | nil => exact ⟨x, rfl⟩
      | cons y r => exact q1.elim
  obtain ⟨l, xs, rowf, rfl, hl, hrow, hT, q⟩ := q1
  obtain ⟨u, rfl, ru⟩ := vals1 r1
  obtain rfl : u = Value.ref l := ru
  show wpAny _ _ (evalAll ((do let v ← eval (.Lambda params body scope lpos) X.env; standAt pos; pure v) :: [])) _ _ s1
  refine wpAny_evalAll_cons (wpAny_bind (lam_make2 I1 TB hcode hmT hu hT hdef (fun y hy e => absurd e (L.nofree y hy)) fun f c' pm ctv H2 s2 I2 eN T2 hf hfn hfr hco => wpAny_bind (wpAny_standAt (wpAny_pure ?_))))
  refine wpAny_evalAll_nil ?_
  show wpAny _ _ (call (.builtin "sorted") [.ref l] [(Str.ofString "key", .ref f)]) _ _ s2
  rw [hcl] at hf
  have hl2 : H2 l = some (.lst xs) := eN l _ hl (fun ps z => by cases z)
  have hrow2 : ∀ y ∈ xs, ∃ a, y = .ref a ∧ H2 a = some (.tup ((rowf y).map V.int)) := fun y hy => by
    obtain ⟨a, e1, e2⟩ := hrow y hy
    exact ⟨a, e1, eN a _ e2 (fun ps z => by cases z)⟩
  obtain ⟨hz, its, n, rv, hol⟩ := I2.hok l _ hl2
  obtain ⟨⟨oc, vs, t, hoc, hdc, hvc⟩, _, _⟩ := I2.hok c' _ hco
  obtain ⟨mb, hb1, hb2⟩ := I2.mod.blt
  have hru := hr.un
  have hrd := hr.dp
  refine sorted_key_data (β := V) (R := fun u x => RelV x u) (vs := its) (bs := xs) (b := false) (fun x => keyR (rowf x)) ⟨_, hol, rfl, n, rfl⟩ (each_of_vals rv) (fun d hd d' hd' => ?_) (.inl fun d hd => ?_) hz (fun x hx => ?_) (ksk_s1 _ _) (fun x => by unfold argsOk; kernel_rfl) (fun x => ksk_t1 _ _)
    (fun v x rx hx h tk kp => ?_) fun out c1 h' tk kp _ hq hlen' heach => ?_
  · obtain ⟨x, _, e1⟩ := List.mem_map.mp hd
    obtain ⟨x', _, e2⟩ := List.mem_map.mp hd'
    rw [← e1, ← e2]
    exact alike_keyR _ _
  · obtain ⟨x, _, e1⟩ := List.mem_map.mp hd
    exact ⟨_, _, e1.symm⟩
  · have := depth_keyR (rowf x)
    show X.A.units + 2 + (keyR (rowf x)).depth < _
    omega
  · obtain ⟨a, e1, e2⟩ := hrow2 x hx
    subst e1
    obtain rfl : v = Value.ref a := rx
    obtain ⟨hz3, its3, rv3, ht3⟩ := I2.hok a _ e2
    refine lam_turn (s1 := { s2 with heap := h, toks := tk }) L (kp _ _ hf) ⟨c', oc, vs, t, rfl, kp _ _ hoc, hdc, hvc⟩ ?_ (I2.nolimit.keeps kp) ((I2.mod.glob.keeps I2.bk).keeps kp) hlen ((hb1.keeps I2.bk).keeps kp) ((hb2 "len" (by decide)).trans PySem.boot_len) (RowV.keep kp ⟨a, its3.toArray, rfl, ht3, by simpa using ints_of_vals rv3⟩) (by simpa using hz3)
    show X.A.depth < _
    omega
  · have rv' := vals_of_each heach
    have hp : (xs.mergeSort (dataLe false fun x => keyR (rowf x))).Perm xs := List.mergeSort_perm _ _
    have hfr2 : H2 (s2.heap.objs.size + 1) = none := I2.hok.fresh (Nat.le_succ _)
    refine ⟨.ref (s2.heap.objs.size + 1), upd H2 (s2.heap.objs.size + 1) (.lst (xs.mergeSort (dataLe false fun x => keyR (rowf x)))), I2.laid (t' := tk) kp (Nat.le_succ _) ⟨by rw [hp.length_eq]; exact hz, out, c1, rv', hq⟩, rfl, ?_⟩
    exact q H2 _ _ eN T2 hp (List.map_mergeSort (s := leR) fun a _ b _ => rfl) hfr2
end
end FsG

set_option Elab.async false
set_option linter.all false
set_option maxRecDepth 100000
set_option maxHeartbeats 2000000
/-! data of ints, texts and tuples, at a value of the heap -/
namespace FsV
open PySem L2 Evl FsE
mutual
def DaAt (H : Hp) (v : V) : PyData → Prop
  | .int i => v = .int i
  | .str z => v = .str z
  | .tuple ds => ∃ (a : Addr) (xs : List V), v = .ref a ∧ H a = some (.tup xs) ∧ DaL H xs ds
  | _ => False
def DaL (H : Hp) (xs : List V) : List PyData → Prop
  | [] => xs = []
  | d :: ds => ∃ (v : V) (vs : List V), xs = v :: vs ∧ DaAt H v d ∧ DaL H vs ds
end
/-- tuples stay -/
def TK (H H' : Hp) : Prop := ∀ a xs, H a = some (.tup xs) → H' a = some (.tup xs)
theorem TK.of {H H' : Hp} (e : Ex H H') : TK H H' := fun a xs h => e a _ h
theorem TK.trans {H H1 H2 : Hp} (e : TK H H1) (f : TK H1 H2) : TK H H2 := fun a xs h => f a xs (e a xs h)
mutual
theorem DaAt.keep {H H' : Hp} (e : TK H H') : ∀ {d : PyData} {v : V}, DaAt H v d → DaAt H' v d
  | .int i, v, h => by unfold DaAt at h ⊢; exact h
  | .str z, v, h => by unfold DaAt at h ⊢; exact h
  | .tuple ds, v, h => by
    unfold DaAt at h ⊢
    obtain ⟨a, xs, h1, h2, h3⟩ := h
    exact ⟨a, xs, h1, e _ _ h2, DaL.keep e h3⟩
  | .none, v, h => by unfold DaAt at h; exact h.elim
  | .bool _, v, h => by unfold DaAt at h; exact h.elim
  | .list _, v, h => by unfold DaAt at h; exact h.elim
  | .dict _, v, h => by unfold DaAt at h; exact h.elim
theorem DaL.keep {H H' : Hp} (e : TK H H') : ∀ {ds : List PyData} {xs : List V}, DaL H xs ds → DaL H' xs ds
  | [], xs, h => by unfold DaL at h ⊢; exact h
  | d :: ds, xs, h => by
    unfold DaL at h ⊢
    obtain ⟨v, vs, h1, h2, h3⟩ := h
    exact ⟨v, vs, h1, DaAt.keep e h2, DaL.keep e h3⟩
end
theorem DaAt.ex {H H' : Hp} (e : Ex H H') {d : PyData} {v : V} (h : DaAt H v d) : DaAt H' v d := h.keep (TK.of e)
theorem DaL.ex {H H' : Hp} (e : Ex H H') {ds : List PyData} {xs : List V} (h : DaL H xs ds) : DaL H' xs ds := h.keep (TK.of e)
section
variable {K : PySem.W.Frag} {H : Hp}
mutual
theorem dp_da : ∀ {d : PyData} {v : V}, DaAt H v d → Dp K H v d
  | .int i, v, h => by unfold DaAt at h; subst h; exact .int i
  | .str z, v, h => by unfold DaAt at h; subst h; exact .str z
  | .tuple ds, v, h => by
    unfold DaAt at h
    obtain ⟨a, xs, h1, h2, h3⟩ := h
    subst h1
    exact .tup (st_of h2) (dp_dal h3)
  | .none, v, h => by unfold DaAt at h; exact h.elim
  | .bool _, v, h => by unfold DaAt at h; exact h.elim
  | .list _, v, h => by unfold DaAt at h; exact h.elim
  | .dict _, v, h => by unfold DaAt at h; exact h.elim
theorem dp_dal : ∀ {ds : List PyData} {xs : List V}, DaL H xs ds → DpAll K H xs ds
  | [], xs, h => by unfold DaL at h; subst h; exact .nil
  | d :: ds, xs, h => by
    unfold DaL at h
    obtain ⟨v, vs, h1, h2, h3⟩ := h
    subst h1
    exact .cons (dp_da h2) (dp_dal h3)
end
end
mutual
def Pl : PyData → Prop
  | .int _ => True
  | .str z => PyData.strOk z = true
  | .tuple ds => PlL ds
  | _ => False
def PlL : List PyData → Prop
  | [] => True
  | d :: ds => Pl d ∧ PlL ds
end
mutual
theorem eqv_pl : ∀ (d e : PyData), Pl d → Pl e → (PyData.eqv d e = true ↔ d = e)
  | .int i, e, h, g => by
    cases e <;> simp_all [Pl, PyData.eqv]
  | .str z, e, h, g => by
    cases e <;> simp_all [Pl, PyData.eqv]
  | .tuple ds, e, h, g => by
    cases e with
    | tuple es =>
      unfold Pl at h g
      have := eqv_plL ds es h g
      simp [PyData.eqv, this]
    | _ => simp_all [Pl, PyData.eqv]
  | .none, e, h, g => by unfold Pl at h; exact h.elim
  | .bool _, e, h, g => by unfold Pl at h; exact h.elim
  | .list _, e, h, g => by unfold Pl at h; exact h.elim
  | .dict _, e, h, g => by unfold Pl at h; exact h.elim
theorem eqv_plL : ∀ (ds es : List PyData), PlL ds → PlL es → (PyData.eqvAll ds es = true ↔ ds = es)
  | [], es, h, g => by cases es <;> simp [PyData.eqvAll]
  | d :: ds, es, h, g => by
    cases es with
    | nil => simp [PyData.eqvAll]
    | cons e es =>
      unfold PlL at h g
      have h1 := eqv_pl d e h.1 g.1
      have h2 := eqv_plL ds es h.2 g.2
      simp [PyData.eqvAll, h1, h2]
end
mutual
theorem lay_pl : ∀ (d : PyData), Pl d → d.canLay0 = true
  | .int i, h => by simp [PyData.canLay0]
  | .str z, h => by unfold Pl at h; simp [PyData.canLay0, h]
  | .tuple ds, h => by
    unfold Pl at h
    simp [PyData.canLay0, lay_plL ds h]
  | .none, h => by unfold Pl at h; exact h.elim
  | .bool _, h => by unfold Pl at h; exact h.elim
  | .list _, h => by unfold Pl at h; exact h.elim
  | .dict _, h => by unfold Pl at h; exact h.elim
theorem lay_plL : ∀ (ds : List PyData), PlL ds → PyData.canLayAll0 ds = true
  | [], h => by simp [PyData.canLayAll0]
  | d :: ds, h => by
    unfold PlL at h
    simp [PyData.canLayAll0, lay_pl d h.1, lay_plL ds h.2]
end
theorem plL_iff {ds : List PyData} : PlL ds ↔ ∀ d ∈ ds, Pl d := by
  induction ds with
  | nil => simp [PlL]
  | cons d ds ih => simp [PlL, ih]
theorem depthAll_le {k : Nat} : ∀ {ds : List PyData}, (∀ d ∈ ds, d.depth ≤ k) → PyData.depthAll ds ≤ k
  | [], _ => by simp [PyData.depthAll]
  | d :: ds, h => by
    have h1 := h d (List.mem_cons_self ..)
    have h2 := depthAll_le (k := k) (ds := ds) fun x hx => h x (List.mem_cons_of_mem _ hx)
    simp only [PyData.depthAll]
    omega
/-- plain, so deep at most -/
def Pk (k : Nat) (d : PyData) : Prop := Pl d ∧ d.depth ≤ k
theorem Pk.tup {k : Nat} {ds : List PyData} (h : ∀ d ∈ ds, Pk k d) : Pk (k + 1) (.tuple ds) := by
  refine ⟨?_, ?_⟩
  · unfold Pl
    exact plL_iff.mpr fun d hd => (h d hd).1
  · have := depthAll_le fun d hd => (h d hd).2
    simp only [PyData.depth]
    omega
theorem Pk.int {k : Nat} {i : Int} : Pk k (.int i) := ⟨by unfold Pl; trivial, by simp [PyData.depth]⟩
theorem Pk.str {k : Nat} {z : Str} (h : PyData.strOk z = true) : Pk k (.str z) := ⟨by unfold Pl; exact h, by simp [PyData.depth]⟩
theorem Pk.mono {j k : Nat} {d : PyData} (h : Pk j d) (hk : j ≤ k) : Pk k d := ⟨h.1, Nat.le_trans h.2 hk⟩
theorem Pk.shaped {k : Nat} {d : PyData} (h : Pk k d) (hk : k ≤ 64) : SeqAt.shaped d = true := by
  show (d.canLay0 && decide (d.depth ≤ 64)) = true
  rw [lay_pl d h.1, decide_eq_true (Nat.le_trans h.2 hk)]
  rfl
theorem Pk.eqv {j k : Nat} {d e : PyData} (h : Pk j d) (g : Pk k e) : PyData.eqv d e = true ↔ d = e := eqv_pl d e h.1 g.1
/-! lists of data -/
theorem DaL.length {H : Hp} : ∀ {ds : List PyData} {xs : List V}, DaL H xs ds → xs.length = ds.length
  | [], xs, h => by unfold DaL at h; subst h; rfl
  | d :: ds, xs, h => by
    unfold DaL at h
    obtain ⟨v, vs, h1, h2, h3⟩ := h
    subst h1
    rw [List.length_cons, List.length_cons, DaL.length h3]
theorem DaL.get {H : Hp} : ∀ {ds : List PyData} {xs : List V} {i : Nat} {d : PyData}, DaL H xs ds → ds[i]? = some d → ∃ v, xs[i]? = some v ∧ DaAt H v d
  | d :: ds, xs, 0, e, h, g => by
    unfold DaL at h
    obtain ⟨v, vs, h1, h2, h3⟩ := h
    subst h1
    cases g
    exact ⟨v, rfl, h2⟩
  | d :: ds, xs, i + 1, e, h, g => by
    unfold DaL at h
    obtain ⟨v, vs, h1, h2, h3⟩ := h
    subst h1
    exact DaL.get (i := i) h3 g
theorem DaL.got {H : Hp} : ∀ {ds : List PyData} {xs : List V} {i : Nat} {v : V}, DaL H xs ds → xs[i]? = some v → ∃ d, ds[i]? = some d ∧ DaAt H v d
  | [], xs, i, v, h, g => by unfold DaL at h; subst h; simp at g
  | d :: ds, xs, 0, v, h, g => by
    unfold DaL at h
    obtain ⟨w, vs, h1, h2, h3⟩ := h
    subst h1
    cases g
    exact ⟨d, rfl, h2⟩
  | d :: ds, xs, i + 1, v, h, g => by
    unfold DaL at h
    obtain ⟨w, vs, h1, h2, h3⟩ := h
    subst h1
    exact DaL.got (i := i) h3 g
theorem DaL.app {H : Hp} : ∀ {ds es : List PyData} {xs ys : List V}, DaL H xs ds → DaL H ys es → DaL H (xs ++ ys) (ds ++ es)
  | [], es, xs, ys, h, g => by unfold DaL at h; subst h; exact g
  | d :: ds, es, xs, ys, h, g => by
    unfold DaL at h
    obtain ⟨w, vs, h1, h2, h3⟩ := h
    subst h1
    show DaL H (w :: (vs ++ ys)) (d :: (ds ++ es))
    unfold DaL
    exact ⟨w, _, rfl, h2, DaL.app h3 g⟩
theorem DaL.take {H : Hp} : ∀ {ds : List PyData} {xs : List V} (n : Nat), DaL H xs ds → DaL H (xs.take n) (ds.take n)
  | ds, xs, 0, h => by rw [List.take_zero, List.take_zero]; unfold DaL; rfl
  | [], xs, n + 1, h => by unfold DaL at h; subst h; rw [List.take_nil, List.take_nil]; unfold DaL; rfl
  | d :: ds, xs, n + 1, h => by
    unfold DaL at h
    obtain ⟨w, vs, h1, h2, h3⟩ := h
    subst h1
    rw [List.take_succ_cons, List.take_succ_cons]
    unfold DaL
    exact ⟨w, _, rfl, h2, DaL.take n h3⟩
theorem DaL.drop {H : Hp} : ∀ {ds : List PyData} {xs : List V} (n : Nat), DaL H xs ds → DaL H (xs.drop n) (ds.drop n)
  | ds, xs, 0, h => h
  | [], xs, n + 1, h => by unfold DaL at h; subst h; rw [List.drop_nil, List.drop_nil]; unfold DaL; rfl
  | d :: ds, xs, n + 1, h => by
    unfold DaL at h
    obtain ⟨w, vs, h1, h2, h3⟩ := h
    subst h1
    exact DaL.drop n h3
theorem DaL.cons {H : Hp} {d : PyData} {ds : List PyData} {v : V} {vs : List V} (h : DaAt H v d) (g : DaL H vs ds) : DaL H (v :: vs) (d :: ds) := by
  unfold DaL
  exact ⟨v, vs, rfl, h, g⟩
theorem DaL.nil {H : Hp} : DaL H [] [] := by unfold DaL; rfl
theorem da_int {H : Hp} {i : Int} : DaAt H (.int i) (.int i) := by unfold DaAt; rfl
theorem da_str {H : Hp} {z : Str} : DaAt H (.str z) (.str z) := by unfold DaAt; rfl
theorem da_tup {H : Hp} {a : Addr} {xs : List V} {ds : List PyData} (h : H a = some (.tup xs)) (g : DaL H xs ds) : DaAt H (.ref a) (.tuple ds) := by
  unfold DaAt
  exact ⟨a, xs, rfl, h, g⟩
theorem DaAt.int {H : Hp} {v : V} {i : Int} (h : DaAt H v (.int i)) : v = .int i := by unfold DaAt at h; exact h
theorem DaAt.str {H : Hp} {v : V} {z : Str} (h : DaAt H v (.str z)) : v = .str z := by unfold DaAt at h; exact h
theorem DaAt.tup {H : Hp} {v : V} {ds : List PyData} (h : DaAt H v (.tuple ds)) : ∃ (a : Addr) (xs : List V), v = .ref a ∧ H a = some (.tup xs) ∧ DaL H xs ds := by unfold DaAt at h; exact h
theorem DaL.snoc {H : Hp} {d : PyData} {ds : List PyData} {v : V} {vs : List V} (g : DaL H vs ds) (h : DaAt H v d) : DaL H (vs ++ [v]) (ds ++ [d]) := g.app (DaL.cons h DaL.nil)
end FsV

set_option Elab.async false
set_option linter.all false
set_option maxRecDepth 100000
set_option maxHeartbeats 4000000
/-! lists made of new things, over a list -/
namespace FsW
open PySem L2 Evl FsE FsC FsR FsK
/-- a new list, with a word of its items -/
def EvLW (te : TE) (σ : L2.St) (H : Hp) (Pv : List V → Hp → Prop) : Prop := ∀ H1, Ex H H1 → ∀ Q : VK, (∀ p H2 ys, H1 p = none → Ex H1 H2 → H2 p = some (.lst ys) → Pv ys H2 → Q (.ref p) H2) → te σ H1 Q
def CwW {α : Type} (R : Hp → V → α → Prop) (H1 : Hp) (ns : List α) (Dl : Addr) (i : Nat) (H' : Hp) : Prop := H1 Dl = none ∧ Ex H1 H' ∧ ∃ ys, H' Dl = some (.lst ys) ∧ LsA R H' ys (ns.take i)
section
variable {α : Type} {R : Hp → V → α → Prop} {σ : L2.St} {H : Hp} {te tl ta tb tc td : TE} {K : PySem.W.Frag}
theorem cwW_turn {H1 H' : Hp} {ns : List α} {Dl : Addr} {i : Nat} {σ2 : L2.St} {n : α} (kp : ∀ H H' v x, ExN H H' → R H v x → R H' v x) (p : CwW R H1 ns Dl i H') (hi : i < 50000) (hn : ns[i]? = some n) (he : EvS te σ2 H1 (fun v H2 => R H2 v n)) :
    tYes σ2 H' fun b H3 => if b = true then te σ2 H3 fun y H4 => ∃ acc, H4 Dl = some (.lst acc) ∧ acc.length < sizeLine ∧ CwW R H1 ns Dl (i + 1) (upd H4 Dl (.lst (acc ++ [y]))) else CwW R H1 ns Dl (i + 1) H3 := by
  obtain ⟨p1, p2, ys, p3, p4⟩ := p
  show te σ2 H' fun y H4 => ∃ acc, H4 Dl = some (.lst acc) ∧ acc.length < sizeLine ∧ CwW R H1 ns Dl (i + 1) (upd H4 Dl (.lst (acc ++ [y])))
  refine he H' p2 _ fun y H4 e4 hy => ?_
  have h4 := e4 _ _ p3
  have hl := p4.length
  rw [List.length_take] at hl
  refine ⟨ys, h4, sz_lt (by omega), p1, Ex.mut (p2.trans e4) p1, ys ++ [y], upd_same, ?_⟩
  rw [List.take_add_one, hn]
  exact LsA.snoc (p4.imp fun _ _ z => kp _ _ _ _ ((ExN.of e4).trans (ExN.upd h4)) z) (kp _ _ _ _ (ExN.upd h4) hy)
/-- [e for x in (a list)], e new -/
theorem elw_L {a : Addr} {xs : List V} {j : Nat} {vs : List Nat} (ns : List α) (kp : ∀ H H' v x, ExN H H' → R H v x → R H' v x) (h : Ev tl σ H (.ref a)) (hx : SqL K H a xs) (hz : xs.length ≤ 40000) (hw : ∀ x, wipe ((wipe σ vs).set j (some x)) vs = wipe σ vs) (hl : ns.length = xs.length)
    (he : ∀ (i : Nat) (x : V) (n : α) H1, Ex H H1 → xs[i]? = some x → ns[i]? = some n → EvS te ((wipe σ vs).set j (some x)) H1 (fun v H2 => R H2 v n)) :
    EvLW (tLc (iList K tl) (gName j) tYes te vs) σ H (fun ys H' => LsA R H' ys ns) := fun H0 e Q q => h H0 e _ fun H1 e1 => ⟨a, rfl, ⟨xs, ex_l (e.trans e1) hx⟩, fun Dl hD =>
  lc_list (xs := xs) (CwW R H1 ns Dl) ⟨hD, Ex.new hD, [], upd_same, by rw [List.take_zero]; trivial⟩ (fun i H' _ p => ex_l ((e.trans e1).trans p.2.1) hx) (fun i x H' hi p => by
    have hi1 := (List.getElem?_eq_some_iff.mp hi).1
    have hn : ns[i]? = some ns[i] := List.getElem?_eq_getElem (by omega)
    exact ⟨hw x, cwW_turn kp p (by omega) hn (he i x _ H1 (e.trans e1) hi hn)⟩)
    (fun H' p => by
      obtain ⟨p1, p2, ys, p3, p4⟩ := p
      rw [List.take_of_length_le (by omega)] at p4
      exact q Dl H' ys (fresh_back e1 p1) (e1.trans p2) p3 p4)⟩
/-- x = (a new list) -/
theorem q_asgLW {i : Nat} {tz : TS} {D : Ends} {Pv : List V → Hp → Prop} (h : EvLW te σ H Pv) (k : ∀ p H1 ys, H p = none → Ex H H1 → H1 p = some (.lst ys) → Pv ys H1 → tz D (σ.set i (some (.ref p))) H1) : tSeq (tAsg te (gName i)) tz D σ H := h H (Ex.refl H) _ fun p H1 ys hp e h1 hk => k p H1 ys hp e h1 hk
end
end FsW

set_option Elab.async false
set_option linter.all false
set_option maxRecDepth 100000
set_option maxHeartbeats 6400000
/-! set(xs) of a list of whole numbers; sorted of it -/
namespace FsG
open PySem PySem.Spec PyProof.Rows L2
abbrev eSet (w : World) : Obj := { cls := .type "set", dict := none, data := .set #[] 0 (.fresh 0 0 (!w.params.followText "set-order")) }
section
variable {P : Program} {w : World} {A : Around} {E : Value → Shared → Prop} {s : Shared}
theorem made_of {l : Addr} {vs : Array Value} (ns : List Int) {Q : Value → Shared → Prop} (ha : A.handled = none) (lst : s.heap.IsList l vs) (whole : IntsAre vs.toList ns) (few : ns.length + 1 < scanBound)
    (k : ∀ (g : Heap) (t c : Nat), SetR w g s.heap.objs.size (fun j => decide (j ∈ ns)) c → c ≤ ns.length → (∀ b o, s.heap.get? b = some o → g.get? b = some o) → Q (.ref s.heap.objs.size) { s with heap := g, toks := t }) :
    wpAny (model P w) A (call (.type "set") [.ref l]) Q E s := by
  have many : vs.size = ns.length := (Array.length_toList (xs := vs)).symm.trans (IntsAre.length whole)
  -- the call of the class: __new__, then __init__
  obtain ⟨mc, mt, mm⟩ := F.called_set.mro
  have m1 := F.called_set.made; have m2 := F.called_set.sub; have m3 := F.called_set.notType; have m4 := F.called_set.canCreate; have m5 := F.typeCall_set_1 (.ref l)
  refine wpAny_call (codeAny_of_tree (show wpAny _ _ (callAny (.type "set") _) _ _ _ from wpAny_pure ⟨Code.quiet_builtin _ (by decide +kernel), codeAny_builtin F.entry_type_call ?_⟩))
  rw [Around.under_plain (weight_type_call_type "set" [.ref l] []) rfl]
  repeat (any_goals (first | wp_step | assumption))
  refine codeAny_mono (code_set_led1 (.ref l) (E := E) (Q₁ := fun v z => v = .ref s.heap.objs.size ∧ z = { s with heap := s.heap.push (eSet w) }) ⟨rfl, rfl⟩) fun r1 z1 h1 => ?_
  match r1, h1 with
  | .error _, h1 => exact h1
  | .ok .next, h1 => exact h1.elim
  | .ok .brk, h1 => exact h1.elim
  | .ok .cont, h1 => exact h1.elim
  | .ok (.ret _), h1 =>
    obtain ⟨rfl, rfl⟩ := h1
    have here : (s.heap.push (eSet w)).get? s.heap.objs.size = some (eSet w) := Heap.get?_push_size _ rfl
    have ty : Shared.TypeIs { s with heap := s.heap.push (eSet w) } (.ref s.heap.objs.size) "set" := ⟨_, here, rfl⟩
    have i1 := F.called_set.init.lookup; have i2 := F.called_set.init.bind (.ref s.heap.objs.size)
    repeat (any_goals (first | wp_step | assumption))
    refine codeAny_mono (codeAny_call_builtin (R := wants (fun u z => u = .none ∧ ∃ g t c, z = { s with heap := g, toks := t } ∧ SetR w g s.heap.objs.size (fun j => decide (j ∈ ns)) c ∧ c ≤ ns.length ∧ ∀ b o, s.heap.get? b = some o → g.get? b = some o) E)
      F.called_set.init.plain F.entry_set_init (check_set_init_1 ty ?_)) fun r2 z2 h2 => ?_
    · have lst1 : (s.heap.push (eSet w)).IsList l vs := lst.push _
      have low : l < s.heap.objs.size := by
        obtain ⟨o, e, _⟩ := lst
        exact Heap.lt_size e
      have d1 : (Value.type "list" == Value.type "dict") = false := by decide
      have d2 := F.sub_list_set; have d3 := F.sub_list_frozenset
      obtain ⟨⟨oc, od, oda, osl⟩, oe, e1, en, e2⟩ := id lst1
      simp only at e1 e2
      subst e1
      subst e2
      unfold Builtin.«set.__init__» Builtin.Frozenset.updateFrom noKeywords
      generalize g0 : pyIter = PX
      wp_walk
      subst g0
      have big : (s.heap.push (eSet w)).objs.size = s.heap.objs.size + 1 := Heap.size_push ..
      refine wpAny_pyIter_list lst1 (wpAny_bind (wpAny_runValue ?_))
      have lne : l ≠ (s.heap.push (eSet w)).objs.size := Nat.ne_of_lt (by rw [big]; exact Nat.lt_succ_of_lt low)
      refine set_update_ints ((Walks.list (show A.in1.in1.in1.handled = none by simp [ha]) _ l lne vs).toS) s.heap.objs.size (by
          simp only [List.mem_cons, List.not_mem_nil, or_false, not_or]
          exact ⟨Nat.ne_of_lt (by rw [big]; exact Nat.lt_succ_self _), (Nat.ne_of_lt low).symm⟩) ns many few (fun i v hv => ?_) (vs.size - 0) 0 _ rfl (Nat.zero_le _) ⟨⟨_, Heap.get?_push_size _ rfl, rfl, rfl⟩, lst1.push _⟩ ⟨0, Nat.le_refl 0, setR_new_at (Heap.get?_push_of_some _ here)⟩ (fun z c mv hc hR => ?_)
      · have hi : i < ns.length := by
          rw [← many]
          exact (Array.getElem?_eq_some_iff.mp hv).1
        obtain ⟨t, e⟩ := IntsAre.int_at whole i v (by rw [Array.getElem?_toList]; exact hv)
        exact ⟨ns[i], t, List.getElem?_eq_getElem hi, by rw [e, List.getD_eq_getElem?_getD, List.getElem?_eq_getElem hi]; rfl⟩
      · obtain ⟨zh, zg, zd, zt, zo⟩ := z
        have q1 : zg = s.gens := mv.gens
        have q2 : zd = s.drawn := mv.drawn
        have q3 : zo = s.os := mv.os
        subst q1 q2 q3
        refine wpAny_pure (wpAny_pure ⟨rfl, zh, zt, c, rfl, hR, by omega, fun b o e => ?_⟩)
        have lo := Heap.lt_size e
        refine mv.heap b o ?_ (Heap.get?_push_of_some _ (Heap.get?_push_of_some _ e))
        simp only [List.mem_cons, List.not_mem_nil, or_false, not_or]
        exact ⟨Nat.ne_of_lt lo, Nat.ne_of_lt (by rw [big]; exact Nat.lt_succ_of_lt lo)⟩
    · match r2, h2 with
      | .error _, h2 => exact h2
      | .ok .next, h2 => exact h2.elim
      | .ok .brk, h2 => exact h2.elim
      | .ok .cont, h2 => exact h2.elim
      | .ok (.ret _), h2 =>
        obtain ⟨rfl, g, t, c, rfl, a1, a2, a3⟩ := h2
        repeat (any_goals (first | wp_step | assumption))
        exact k g t c a1 a2 a3
end
theorem same_rise : ∀ {xs ys : List Int}, xs.Pairwise (· < ·) → ys.Pairwise (· < ·) → (∀ k, k ∈ xs ↔ k ∈ ys) → xs = ys
  | [], [], _, _, _ => rfl
  | [], y :: ys, _, _, h => absurd ((h y).mpr (List.mem_cons_self ..)) (by simp)
  | x :: xs, [], _, _, h => absurd ((h x).mp (List.mem_cons_self ..)) (by simp)
  | x :: xs, y :: ys, hx, hy, h => by
    obtain ⟨x1, x2⟩ := List.pairwise_cons.mp hx
    obtain ⟨y1, y2⟩ := List.pairwise_cons.mp hy
    have e : x = y := by
      rcases List.mem_cons.mp ((h x).mp (List.mem_cons_self ..)) with a | a
      · exact a
      · rcases List.mem_cons.mp ((h y).mpr (List.mem_cons_self ..)) with b | b
        · exact b.symm
        · have := x1 y b
          have := y1 x a
          omega
    subst e
    congr 1
    refine same_rise x2 y2 fun k => ⟨fun hk => ?_, fun hk => ?_⟩
    · rcases List.mem_cons.mp ((h k).mp (List.mem_cons_of_mem _ hk)) with a | a
      · have := x1 k hk
        omega
      · exact a
    · rcases List.mem_cons.mp ((h k).mpr (List.mem_cons_of_mem _ hk)) with a | a
      · have := y1 k hk
        omega
      · exact a
/-- set(xs) -/
def rSetI (K : PySem.W.Frag) (w : World) : List V → Hp → VK → Prop := fun xs H Q => ∃ (l : Addr) (ns : List Int), xs = [V.ref l] ∧ SqL K H l (ns.map V.int) ∧ ns.length ≤ 1000 ∧ ∀ p c, H p = none → c ≤ ns.length → Q (.ref p) (upd H p (SetO w p (fun j => decide (j ∈ ns)) c))
section
variable {X : Cx}
theorem cr_setI (hc : X.calm = true) : CallR X (.type "set") (rSetI X.K X.w) := by
  intro pins s σ H xs us Q I r h
  obtain ⟨l, ns, rfl, hq, hl, q⟩ := h
  rw [Vals.ref1 r]
  obtain ⟨its, rv, pl, hz⟩ := I.list hq
  have few : ns.length + 1 < scanBound := by
    unfold scanBound
    omega
  refine made_of ns (I.ok.hd hc) pl.isList (by simpa using RZ.intsAre_vals rv) few fun g t c R hcn k => ?_
  exact ⟨.ref _, _, I.laid (t' := t) k (Nat.le_refl _) (setO_new R), rfl, q _ c (I.hok.fresh (Nat.le_refl _)) hcn⟩
end
open Evl in
/-- what sorted(set(xs)) tells of a list that rises -/
theorem sorted_rise {w : World} {H : Hp} {ns : List Int} {Q : VK} {p : Addr} {c : Nat} (hp : H p = none) (few : ns.length < 64) (hcn : c ≤ ns.length) (rise : ns.Pairwise (· < ·)) (q : ∀ u H', H u = none → Ex H H' → H' u = some (.lst (ns.map V.int)) → Q (.ref u) H') :
    rSortedSet w [.ref p] (upd H p (SetO w p (fun j => decide (j ∈ ns)) c)) Q := ⟨p, _, c, rfl, upd_same, by omega, fun ms u h1 h2 h3 hu => by
  have e : ms = ns := same_rise h1 rise fun k => (h2 k).trans (by simp)
  subst e
  exact q u _ (by
    by_cases hup : u = p
    · rw [hup]
      exact hp
    · rw [upd_ne hup] at hu
      exact hu) ((Ex.new hp).trans (Ex.new hu)) upd_same⟩
end FsG

set_option Elab.async false
set_option linter.all false
set_option maxRecDepth 100000
set_option maxHeartbeats 4000000
/-! len(set(xs)) of a list of whole numbers that may repeat -/
namespace FsG
open PySem PySem.Spec PyProof.Rows L2
theorem sub_le : ∀ {keys ns : List Int}, keys.Nodup → (∀ k ∈ keys, k ∈ ns) → keys.length ≤ ns.length
  | [], ns, _, _ => Nat.zero_le _
  | k :: ks, ns, hn, hs => by
    have hk : k ∈ ns := hs k (List.mem_cons_self ..)
    have hn' := List.nodup_cons.mp hn
    have ih := sub_le (keys := ks) (ns := ns.erase k) hn'.2 fun x hx => (List.mem_erase_of_ne (fun (e : x = k) => hn'.1 (by rw [← e]; exact hx))).mpr (hs x (List.mem_cons_of_mem _ hx))
    rw [List.length_erase_of_mem hk] at ih
    have := List.length_pos_of_mem hk
    rw [List.length_cons]
    omega
theorem sub_perm : ∀ {keys ns : List Int}, keys.Nodup → (∀ k ∈ keys, k ∈ ns) → keys.length = ns.length → ns.Perm keys
  | [], ns, _, _, hl => by rw [List.eq_nil_of_length_eq_zero hl.symm]
  | k :: ks, ns, hn, hs, hl => by
    have hk : k ∈ ns := hs k (List.mem_cons_self ..)
    have hn' := List.nodup_cons.mp hn
    have ih := sub_perm (keys := ks) (ns := ns.erase k) hn'.2 (fun x hx => (List.mem_erase_of_ne (fun (e : x = k) => hn'.1 (by rw [← e]; exact hx))).mpr (hs x (List.mem_cons_of_mem _ hx))) (by
      rw [List.length_erase_of_mem hk, ← hl, List.length_cons]
      omega)
    exact (List.perm_cons_erase hk).trans (ih.cons k)
theorem len_nodup {keys ns : List Int} (hn : keys.Nodup) (h : ∀ k, k ∈ ns ↔ k ∈ keys) : keys.length = ns.length ↔ ns.Nodup := by
  constructor
  · intro hl
    exact (sub_perm hn (fun k hk => (h k).mpr hk) hl).nodup_iff.mpr hn
  · intro hd
    exact Nat.le_antisymm (sub_le hn fun k hk => (h k).mpr hk) (sub_le hd fun k hk => (h k).mp hk)
def tLenSetG (K : PySem.W.Frag) (ta : TE) : TE := fun σ H Q => ta σ H fun x H1 => ∃ (l : Addr) (ns : List Int), x = .ref l ∧ SqL K H1 l (ns.map V.int) ∧ ns.length ≤ 1000 ∧ ∀ c : Nat, (c = ns.length ↔ ns.Nodup) → Q (.int (c : Int)) H1
theorem pe_lenSetG {X : Cx} {a : Expr} {ta : TE} {p p2 q pos : Pos} (hg : Gl X "len") (hm : X.mg "len" = none) (hg2 : Gl X "set") (hm2 : X.mg "set" = none) (ha : PE X a ta) (hc : X.calm = true := by rfl)
    (na : starEach [a] X.env = (false, eval a X.env) :: starEach [] X.env := by rfl) : PE X (.Call (.Name "len" p) [.Call (.Name "set" p2) [a] [] q] [] pos) (tLenSetG X.K ta) := by
  refine ⟨fun pins s σ H Q I h => ?_⟩
  refine Call_ (ld_blt I hg hm boot_len ?_)
  refine PyProof.Rows.callWith_builtin1 (PyProof.Rows.args_cons ?_ rfl) rfl rfl
  refine Call_ (ld_blt I hg2 hm2 boot_set ?_)
  refine PyProof.Rows.callWith_type1 (PyProof.Rows.args_cons (thn (ha.run pins s σ H _ I h) fun v s1 ⟨x, H1, I1, r1, q1⟩ => PyProof.Rows.args_nil ?_) na) na rfl
  obtain ⟨l, ns, rfl, hq, hl, q1⟩ := q1
  cases r1
  obtain ⟨its, rv, pl, hz⟩ := I1.list hq
  have few : ns.length + 1 < scanBound := by
    unfold scanBound
    omega
  refine made_of ns (I1.ok.hd hc) pl.isList (by simpa using RZ.intsAre_vals rv) few fun g t c R hcn k => ?_
  refine PyProof.Rows.args_nil ?_
  obtain ⟨o, es, ep, t', ho, hex, hd, _, hnd, hmem, _, hf, hn, _⟩ := R
  have I2 : Inv X pins σ H1 { s1 with heap := g, toks := t } := I1.kept fun b o e => k b o e
  have hiff : c = ns.length ↔ ns.Nodup := by
    have h1 := len_nodup (keys := es.toList.map keyOf) (ns := ns) hnd fun k => by
      rw [← hmem k, decide_eq_true_eq]
    rw [List.length_map, Array.length_toList, hn] at h1
    exact h1
  exact call_len_set ho hex hd hf (by rw [hn] <;> omega) ⟨.int (c : Int), H1, I2.tok _, ⟨_, by rw [hn]⟩, q1 c hiff⟩
end FsG

set_option Elab.async false
set_option linter.all false
set_option maxRecDepth 100000
set_option maxHeartbeats 4000000
/-! {e for x in xs if ..} of whole numbers; len of such a set -/
namespace FsG
open PySem PySem.Spec PyProof.Rows L2 PpSet
section
variable {X : Cx}
/-- len(s) -/
def rLenSO (w : World) : List V → Hp → VK → Prop := fun vs H Q => ∃ (a : Addr) (S : Int → Bool) (n : Nat), vs = [.ref a] ∧ H a = some (SetO w a S n) ∧ n < 1000 ∧ ∀ ks : List Int, ks.Nodup → (∀ k, k ∈ ks ↔ S k = true) → ks.length = n → Q (.int (n : Int)) H
theorem cr_lenSO : CallR X (.builtin "len") (rLenSO X.w) := by
  intro pins s σ H vs us Q I r h
  obtain ⟨a, S, n, rfl, ha, hn, q⟩ := h
  obtain ⟨u, rfl, ru⟩ := vals1 r
  obtain rfl : u = Value.ref a := ru
  obtain ⟨o, es, ep, t', ho, hex, hd, _, hnd, hmem, _, hf, he, _⟩ := setO_get I ha
  refine call_len_set ho hex hd hf (by rw [he]; have := line63; omega) ⟨.int (n : Int), H, I.tok _, ⟨_, by rw [he]⟩, ?_⟩
  exact q (es.toList.map keyOf) hnd (fun k => (hmem k).symm) (by rw [List.length_map, Array.length_toList, he])
/-- the block's reading: D the new set, W its invariant by the turn and a measure -/
def tSci (w : World) (wi : TI) (g : TG) (tt : TT) (te : TE) (vs : List Nat) : TE := fun σ H Q => wi σ H fun J Hi => ∀ D, Hi D = none → ∃ W : Nat → Nat → Hp → Prop, (∃ m, W 0 m (upd Hi D (SetO w D (fun _ => false) 0))) ∧
  ∀ i m Ha, W i m Ha → (J.stop i Ha ∧ Q (.ref D) Ha) ∨ (J.go i Ha ∧ ∃ Nx : Hp → Prop, (∀ Hb, Nx Hb → ∃ m', m' < m ∧ W (i + 1) m' Hb) ∧ ∀ x Hb, J.yld i Ha x Hb → g x (wipe σ vs) Hb fun σc Hc => wipe σc vs = wipe σ vs ∧
    tt σc Hc fun b Hd => if b = true then te σc Hd fun y He => ∃ (k : Int) (S : Int → Bool) (n : Nat), y = .int k ∧ He D = some (SetO w D S n) ∧ n + 1 < scanBound ∧ Nx (upd He D (SetO w D (fun j => S j || decide (j = k)) (if S k = true then n else n + 1))) else Nx Hd)
theorem pe_sci {elt tg iter : Expr} {ifs : List Expr} {scope : Scope} {own : List (PySem.Str × Nat)} {pos : Pos} {wi : TI} {g : TG} {tt : TT} {te : TE} (calm : X.calm = true) (nd : X.N.Nodup) (pi : PI X tg iter wi) (bk : BlkOk X.N X.env.scope scope own)
    (kg : ∀ (sb : Shared) (Hb : Hp) (Cb : Addr) (cl : List (PySem.Str × Addr)) (fp : List Addr), PG (X.blk sb Hb scope (compEnvC scope cl Cb X.env) fp) tg g) (kt : ∀ (sb : Shared) (Hb : Hp) (Cb : Addr) (cl : List (PySem.Str × Addr)) (fp : List Addr), PTs (X.blk sb Hb scope (compEnvC scope cl Cb X.env) fp) ifs tt)
    (ke : ∀ (sb : Shared) (Hb : Hp) (Cb : Addr) (cl : List (PySem.Str × Addr)) (fp : List Addr), PE (X.blk sb Hb scope (compEnvC scope cl Cb X.env) fp) elt te) (fold : ∀ x, foldedSetIterable iter X.env x = pure x := by intro _; rfl) :
    PE X (.SetComp elt [⟨tg, iter, ifs, 0⟩] scope pos) (tSci X.w wi g tt te (own.map (·.2))) := by
  refine ⟨fun pins s σ H Q I want => ?_⟩
  have caught : ∀ y ∈ scope.names, y.2 = .free → ∃ c, X.env.cells.lookup y.1 = some c := fun y hy e => (bk.free y hy e).elim (fun z => I.ok.has _ (.inl z)) fun z => I.ok.has _ (.inr z)
  rw [eval_SetComp]
  refine wpAny_comprehension_free (use := none) rfl fold (closure_ok caught) bk.kind (fun y hy e => by rw [bk.uniq y hy, e]) (thn (pi.run pins s σ H _ I want) fun xv sx hx => thn hx fun itv sy hy => ?_)
  obtain ⟨it, fp, tn, J, Hy, ei, Iy, Tn, ty, fy, more⟩ := hy
  subst ei
  refine newSet_ok (newEnv_comp ?_)
  -- the new set stands at D
  obtain ⟨D, hD⟩ : ∃ D, D = sy.heap.objs.size := ⟨_, rfl⟩
  rw [← hD]
  obtain ⟨W, ⟨m0, w0⟩, turn⟩ := more D (Iy.hok.fresh (Nat.le_of_eq hD.symm))
  generalize ez : ({ sy with heap := sy.heap.push { cls := .type "set", dict := none, data := .set #[] 0 (.fresh 0 0 (!X.w.params.followText "set-order")) } } : Shared) = sz
  have hz : sz.heap = sy.heap.push { cls := .type "set", dict := none, data := .set #[] 0 (.fresh 0 0 (!X.w.params.followText "set-order")) } := by rw [← ez]
  have Iz : Inv X pins σ (upd Hy D (SetO X.w D (fun _ => false) 0)) sz := by
    rw [← ez]
    refine Iy.laid (t' := sy.toks) (fun b o e => Heap.get?_push_of_some _ e) (Nat.le_of_eq hD.symm) ?_
    rw [hD]
    exact setO_new (setR_fresh X.w)
  have small : ∀ b ∈ fp, b < sy.heap.objs.size := fun b hb => by
    obtain ⟨o, e, _⟩ := Tn.obj _ _ ty b hb
    exact Heap.lt_size e
  have fz : ∀ b ∈ fp, FpOk X pins (upd Hy D (SetO X.w D (fun _ => false) 0)) b ∧ b < sz.heap.objs.size := fun b hb => by
    have lt := small b hb
    refine ⟨⟨?_, (fy b hb).2⟩, by rw [hz, Heap.size_push]; exact Nat.lt_succ_of_lt lt⟩
    rw [upd_ne (by rw [hD]; exact Nat.ne_of_lt lt)]
    exact (fy b hb).1
  have tz : tn 0 sz.heap := Tn.keep _ _ _ ty fun b _ o e => by rw [hz]; exact Heap.get?_push_of_some _ e
  have Ib := block_start Iz bk nd fz
  have bg := kg sz (upd Hy D (SetO X.w D (fun _ => false) 0)) sz.heap.objs.size (cellsFrom (sz.heap.objs.size + 1) scope.names (cloFrom X.env.cells scope.names [])) fp
  have bt := kt sz (upd Hy D (SetO X.w D (fun _ => false) 0)) sz.heap.objs.size (cellsFrom (sz.heap.objs.size + 1) scope.names (cloFrom X.env.cells scope.names [])) fp
  have be := ke sz (upd Hy D (SetO X.w D (fun _ => false) 0)) sz.heap.objs.size (cellsFrom (sz.heap.objs.size + 1) scope.names (cloFrom X.env.cells scope.names [])) fp
  have out0 : ∀ b ∈ fp, (upd Hy D (SetO X.w D (fun _ => false) 0)) b = none := fun b hb => (fz b hb).1.1
  refine (show codeAny (model X.prog X.w) X.A (.compStart (.SetComp elt [⟨tg, iter, ifs, 0⟩] scope pos) 0 (.ref it) (.ref D) (compEnvC scope (cellsFrom (sz.heap.objs.size + 1) scope.names (cloFrom X.env.cells scope.names [])) sz.heap.objs.size X.env)) (compPost (model X.prog X.w) X.A X.xe none (EP X pins σ Q) (.ref D) sz.heap.objs.size)
    { sz with heap := pushCells (sz.heap.push { cls := .type "dict", data := .dict #[] }) scope.names } from ?_)
  generalize ec : compEnvC scope (cellsFrom (sz.heap.objs.size + 1) scope.names (cloFrom X.env.cells scope.names [])) sz.heap.objs.size X.env = ce at Ib bg bt be ⊢
  have eL : ce.locals = sz.heap.objs.size := by rw [← ec]; rfl
  generalize upd Hy D (SetO X.w D (fun _ => false) 0) = Hz at Iz Ib bg bt be w0 out0 fz
  generalize es : ({ sz with heap := pushCells (sz.heap.push { cls := .type "dict", data := .dict #[] }) scope.names } : Shared) = sb at Ib ⊢
  have tb : tn 0 sb.heap := Tn.keep _ _ _ tz fun b _ o e => by rw [← es]; exact pushCells_keeps _ _ _ _ (Heap.get?_push_of_some _ e)
  have apart : ∀ {σ' : L2.St} {H' : Hp} {s' : Shared}, Inv (X.blk sz Hz scope ce fp) [] σ' H' s' → (∀ b ∈ fp, H' b = none) → ∀ b ∈ fp, FpOk (X.blk sz Hz scope ce fp) [] H' b := fun {σ' H' s'} J' hn b hb =>
    ⟨hn b hb, (J'.ok.exf b hb).1, J'.ok.exfs b hb, .inl hb, fun x c e => (J'.ok.exf b hb).2 x c e, fun p hp => by simp [Cx.blk] at hp⟩
  have run : codeAny (model X.prog X.w) X.A (.compLoop (.SetComp elt [⟨tg, iter, ifs, 0⟩] scope pos) 0 (.ref it) (.ref D) ce) (compPost (model X.prog X.w) X.A X.xe none (EP X pins σ Q) (.ref D) sz.heap.objs.size) sb := by
    refine compLoopS_any (fun n s' => ∃ i H', Inv (X.blk sz Hz scope ce fp) [] (wipe σ (own.map (·.2))) H' s' ∧ tn i s'.heap ∧ (∀ b ∈ fp, H' b = none) ∧ W i n H') ?_ m0 ⟨0, Hz, Ib, tb, out0, w0⟩
    rintro n s1 ⟨i, H1, I1, t1, n1, w1⟩
    rcases turn i n H1 w1 with ⟨stop, ends⟩ | ⟨go, Nx, less, step⟩
    · refine thnF (Tn.done (X.blk sz Hz scope ce fp) rfl rfl rfl calm i [] s1 _ H1 (fun _ _ => False) I1 (apart I1 n1) t1 stop) fun r s2 ⟨hr, I2⟩ => ?_
      subst hr
      have Iback : Inv X pins σ H1 s2 := Iz.call' (ch := fp) I2.os I2.base I2.hok I2.bare fun b hb => ⟨(fz b hb).1.2.2.2.1, (fz b hb).1.2.1, (fz b hb).1.2.2.2.2.1, (fz b hb).1.2.2.2.2.2⟩
      have nC : H1 sz.heap.objs.size = none := by
        have := I2.free
        rw [show (X.blk sz Hz scope ce fp).env.locals = sz.heap.objs.size from eL] at this
        exact this
      obtain ⟨m, hm, _⟩ := I2.loc
      rw [show (X.blk sz Hz scope ce fp).env.locals = sz.heap.objs.size from eL] at hm
      obtain ⟨c0, c1, c2, c3, c4, c5⟩ := Iz.fpOk (Nat.le_refl _) nC
      exact ⟨m, hm, fun h'' sb' => ⟨.ref D, H1, Iback.turned (t' := s2.toks) (fun b o hb e => (sb'.2 b hb).trans e) c0 c1 c3 c4 c5, rfl, ends⟩⟩
    · refine thnF (Tn.item (X.blk sz Hz scope ce fp) rfl rfl rfl calm i [] s1 _ H1 (fun _ _ => False) I1 (apart I1 n1) t1 go) fun r s2 ⟨u, hr, h2⟩ => ?_
      subst hr
      refine thnF h2 fun _ s3 ⟨x, H3, I3, r3, y3, t3, n3⟩ => ?_
      refine thnF (bg.run _ s3 _ H3 x u _ (I3.pinned (apart I3 n3) (Tn.obj _ _ t3)) r3 (step x H3 y3)) fun _ s4 ⟨σ4, H4, I4, same, q4⟩ => ?_
      refine thnF (bt.run _ s4 σ4 H4 _ I4 q4) fun b s5 ⟨H5, I5, q5⟩ => ?_
      have next : ∀ {s' : Shared} {H' : Hp}, Inv (X.blk sz Hz scope ce fp) ([] ++ pinsAt fp s3.heap) σ4 H' s' → Nx H' → ∃ m, m < n ∧ ∃ i H', Inv (X.blk sz Hz scope ce fp) [] (wipe σ (own.map (·.2))) H' s' ∧ tn i s'.heap ∧ (∀ b ∈ fp, H' b = none) ∧ W i m H' := fun {s' H'} J' nx => by
        obtain ⟨m', lt, w'⟩ := less H' nx
        have held : ∀ b ∈ fp, ∀ o, s3.heap.get? b = some o → s'.heap.get? b = some o ∧ H' b = none := fun b hb o e =>
          have z := J'.pin (b, o) (List.mem_append_right _ (List.mem_append_right _ (mem_pinsAt hb e)))
          ⟨z.1, z.2.1⟩
        refine ⟨m', lt, i + 1, H', (J'.unpinned (pins := [])).weak (by rw [← same, wipe_length]) (fun j v e => by rw [← same] at e; exact (wipe_some e).1), Tn.keep _ _ _ t3 fun b hb o e => (held b hb o e).1, fun b hb => ?_, w'⟩
        obtain ⟨o, e, _⟩ := Tn.obj _ _ t3 b hb
        exact (held b hb o e).2
      cases b with
      | false =>
        simp only [Bool.false_eq_true, if_false] at q5 ⊢
        exact next I5 q5
      | true =>
        simp only [if_true] at q5 ⊢
        refine thnF (be.run _ s5 σ4 H5 _ I5 q5) fun z s6 ⟨yv, H6, I6, r6, k, S, c, ey, hS, room, nx⟩ => ?_
        subst ey
        refine thnF (mt_sadd (X := X.blk sz Hz scope ce fp) ([] ++ pinsAt fp s3.heap) s6 σ4 H6 (.ref D) [.int k] (.ref D) [z] (fun _ H' => Nx H') I6 rfl (.cons r6 .nil) ⟨D, k, S, c, rfl, rfl, hS, room, nx⟩) fun _ s7 ⟨_, H7, I7, _, n7⟩ => ?_
        exact next I7 n7
  exact codeAny_compStart_set run (Tn.self X.A 0 _ _ _ tb run)
end
end FsG

set_option Elab.async false
set_option linter.all false
set_option maxRecDepth 100000
set_option maxHeartbeats 4000000
/-! expressions that are tuples of data; comprehensions over data, with tests; sets of whole numbers by a comprehension -/
namespace FsD
open PySem L2 Evl FsE FsK FsV FsG FsW
/-- a tuple of data -/
def EvTu (te : TE) (σ : L2.St) (H : Hp) (ds : List PyData) : Prop := ∀ H1, Ex H H1 → ∀ Q : VK, (∀ a xs H2, Ex H1 H2 → H2 a = some (.tup xs) → DaL H2 xs ds → Q (.ref a) H2) → te σ H1 Q
def cutD (ds : List PyData) (lo hi : Option Int) : List PyData := (ds.drop (HT.sIx ds.length 0 lo)).take (HT.sIx ds.length ds.length hi - HT.sIx ds.length 0 lo)
section
variable {σ : L2.St} {H : Hp} {te ta tb : TE} {K : PySem.W.Frag} {ds es : List PyData}
theorem etu_of {a : Addr} {xs : List V} (h : Ev te σ H (.ref a)) (ha : H a = some (.tup xs)) (hd : DaL H xs ds) : EvTu te σ H ds := fun H1 e Q q => h H1 e _ fun H2 e2 => q a xs H2 e2 ((e.trans e2) _ _ ha) (hd.ex (e.trans e2))
theorem etu_da {v : V} (h : Ev te σ H v) (hd : DaAt H v (.tuple ds)) : EvTu te σ H ds := by
  obtain ⟨a, xs, rfl, ha, hx⟩ := hd.tup
  exact etu_of h ha hx
theorem etu_is (h : EvTu te σ H ds) (e : ds = es) : EvTu te σ H es := e ▸ h
theorem etu_sl {tl th : TO} {lo hi : Option Int} (h : EvTu te σ H ds) (h1 : EvO tl σ H lo) (h2 : EvO th σ H hi) : EvTu (tSl (rSlA K) te tl th) σ H (cutD ds lo hi) := fun H1 e Q q =>
  h H1 e _ fun a xs H2 e2 ha hd => h1 H2 (e.trans e2) _ fun H3 e3 => h2 H3 ((e.trans e2).trans e3) _ fun H4 e4 => by
    have e24 := e3.trans e4
    have n : xs.length = ds.length := hd.length
    refine ⟨a, xs, rfl, st_of (e24 _ _ ha), fun hw => ?_, fun _ p hp => ?_⟩
    · have : cutD ds lo hi = ds := by
        unfold cutD
        rw [n] at hw
        rw [hw.1, hw.2, List.drop_zero, Nat.sub_zero, List.take_length]
      rw [this] at q
      exact q a xs H4 (e2.trans e24) (e24 _ _ ha) (hd.ex e24)
    · refine q p _ _ ((e2.trans e24).trans (Ex.new hp)) upd_same ?_
      unfold cutV cutD
      rw [n]
      exact DaL.take _ (DaL.drop _ (hd.ex (e24.trans (Ex.new hp))))
theorem etu_cat (ha : EvTu ta σ H ds) (hb : EvTu tb σ H es) (hz : ds.length + es.length ≤ 1000) : EvTu (tOp (rCatA K) ta tb) σ H (ds ++ es) := fun H1 e Q q =>
  ha H1 e _ fun a xs H2 e2 h2 hd => hb H2 (e.trans e2) _ fun b ys H3 e3 h3 he => by
    have n1 : xs.length = ds.length := hd.length
    have n2 : ys.length = es.length := he.length
    refine ⟨a, b, xs, ys, rfl, rfl, st_of (e3 _ _ h2), st_of h3, by rw [n1, n2, sizeLine_eq]; omega, fun hx => ?_, fun _ hy => ?_, fun _ _ p hp => ?_⟩
    · have : ds = [] := List.eq_nil_of_length_eq_zero (by rw [← n1, hx]; rfl)
      subst this
      exact q b ys H3 (e2.trans e3) h3 he
    · have : es = [] := List.eq_nil_of_length_eq_zero (by rw [← n2, hy]; rfl)
      subst this
      rw [List.append_nil] at q
      exact q a xs H3 (e2.trans e3) (e3 _ _ h2) (hd.ex e3)
    · exact q p _ _ ((e2.trans e3).trans (Ex.new hp)) upd_same (DaL.app (hd.ex (e3.trans (Ex.new hp))) (he.ex (Ex.new hp)))
theorem etu_1 {d : PyData} (h : EvS te σ H (fun v H' => DaAt H' v d)) : EvTu (tTup (tCons te tNil)) σ H [d] := fun H1 e Q q =>
  h H1 e _ fun v H2 e2 hd => ⟨by show 1 ≤ sizeLine; decide, fun p hp => q p _ _ (e2.trans (Ex.new hp)) upd_same (DaL.cons (hd.ex (Ex.new hp)) DaL.nil)⟩
theorem etu_2 {d e' : PyData} (h : EvS ta σ H (fun v H' => DaAt H' v d)) (g : EvS tb σ H (fun v H' => DaAt H' v e')) : EvTu (tTup (tCons ta (tCons tb tNil))) σ H [d, e'] := fun H1 e Q q =>
  h H1 e _ fun v H2 e2 hd => g H2 (e.trans e2) _ fun u H3 e3 he => ⟨by show 2 ≤ sizeLine; decide, fun p hp => q p _ _ ((e2.trans e3).trans (Ex.new hp)) upd_same (DaL.cons (hd.ex (e3.trans (Ex.new hp))) (DaL.cons (he.ex (Ex.new hp)) DaL.nil))⟩
theorem es_tu (h : EvTu te σ H ds) : EvS te σ H (fun v H' => DaAt H' v (.tuple ds)) := fun H1 e Q q => h H1 e _ fun a xs H2 e2 h2 hd => q _ H2 e2 (da_tup h2 hd)
theorem es_da {v : V} {d : PyData} (h : Ev te σ H v) (hd : DaAt H v d) : EvS te σ H (fun v H' => DaAt H' v d) := fun H1 e Q q => h H1 e _ fun H2 e2 => q v H2 e2 (hd.ex (e.trans e2))
theorem cut_tk {j : Nat} : cutD ds none (some (j : Int)) = ds.take j := by
  unfold cutD
  rw [HT.sIx_none, HT.sIx_nat, List.drop_zero, Nat.sub_zero]
  by_cases h : j ≤ ds.length
  · rw [Nat.min_eq_left h]
  · rw [Nat.min_eq_right (by omega), List.take_length, List.take_of_length_le (by omega)]
theorem cut_dr {j : Nat} : cutD ds (some (j : Int)) none = ds.drop j := by
  unfold cutD
  rw [HT.sIx_none, HT.sIx_nat]
  by_cases h : j ≤ ds.length
  · rw [Nat.min_eq_left h, List.take_of_length_le (by rw [List.length_drop]; omega)]
  · rw [Nat.min_eq_right (by omega), List.drop_of_length_le (Nat.le_refl _), List.drop_of_length_le (by omega), List.take_nil]
theorem cut_m1 (h : ds ≠ []) : cutD ds none (some (-1)) = ds.take (ds.length - 1) := by
  have hp : 0 < ds.length := List.length_pos_iff.mpr h
  unfold cutD
  rw [HT.sIx_none, List.drop_zero, Nat.sub_zero]
  have e : HT.sIx ds.length ds.length (some (-1)) = ((-1 : Int) + (ds.length : Int)).toNat := rfl
  rw [e, show ((-1 : Int) + (ds.length : Int)).toNat = ds.length - 1 by omega]

/-- a list of data, new -/
def EvLD (te : TE) (σ : L2.St) (H : Hp) (ds : List PyData) : Prop := ∀ H1, Ex H H1 → ∀ Q : VK, (∀ p xs H2, H1 p = none → Ex H1 H2 → H2 p = some (.lst xs) → DaL H2 xs ds → Q (.ref p) H2) → te σ H1 Q
theorem eld_is (h : EvLD te σ H ds) (e : ds = es) : EvLD te σ H es := e ▸ h
theorem eld_cat (ha : EvLD ta σ H ds) (hb : EvLD tb σ H es) (hz : ds.length + es.length ≤ 100000) : EvLD (tOp rCat ta tb) σ H (ds ++ es) := fun H1 e Q q =>
  ha H1 e _ fun a xs H2 na e2 h2 hd => hb H2 (e.trans e2) _ fun b ys H3 nb e3 h3 he => by
    have n1 : xs.length = ds.length := hd.length
    have n2 : ys.length = es.length := he.length
    exact ⟨a, b, xs, ys, rfl, rfl, e3 _ _ h2, h3, sz_of (by omega), fun p hp => q p _ _ (fresh_back (e2.trans e3) hp) ((e2.trans e3).trans (Ex.new hp)) upd_same (DaL.app (hd.ex (e3.trans (Ex.new hp))) (he.ex (Ex.new hp)))⟩
/-- x + (a new list), x a list -/
theorem eld_catV {a : Addr} {xs : List V} (ha : Ev ta σ H (.ref a)) (hx : H a = some (.lst xs)) (hd : DaL H xs ds) (hb : EvLD tb σ H es) (hz : ds.length + es.length ≤ 100000) : EvLD (tOp rCat ta tb) σ H (ds ++ es) := fun H1 e Q q =>
  ha H1 e _ fun H2 e2 => hb H2 (e.trans e2) _ fun b ys H3 nb e3 h3 he => by
    have n1 : xs.length = ds.length := hd.length
    have n2 : ys.length = es.length := he.length
    have e13 := (e.trans e2).trans e3
    exact ⟨a, b, xs, ys, rfl, rfl, e13 _ _ hx, h3, sz_of (by omega), fun p hp => q p _ _ (fresh_back (e2.trans e3) hp) ((e2.trans e3).trans (Ex.new hp)) upd_same (DaL.app (hd.ex (e13.trans (Ex.new hp))) (he.ex (Ex.new hp)))⟩
/-- [] -/
theorem eld_nil : EvLD (tLst tNil) σ H [] := fun H1 e Q q => ⟨by show 0 ≤ sizeLine; decide, fun p hp => q p [] _ hp (Ex.new hp) upd_same DaL.nil⟩
/-- [x] -/
theorem eld_1 {d : PyData} (h : EvS te σ H (fun v H' => DaAt H' v d)) : EvLD (tLst (tCons te tNil)) σ H [d] := fun H1 e Q q =>
  h H1 e _ fun v H2 e2 hd => ⟨by show 1 ≤ sizeLine; decide, fun p hp => q p [v] _ (fresh_back e2 hp) (e2.trans (Ex.new hp)) upd_same (DaL.cons (hd.ex (Ex.new hp)) DaL.nil)⟩
theorem etu_nil : EvTu (tTup tNil) σ H [] := fun H1 e Q q => ⟨by show 0 ≤ sizeLine; decide, fun p hp => q p [] _ (Ex.new hp) upd_same DaL.nil⟩
theorem etu_3 {c d e' : PyData} {tc : TE} (h : EvS ta σ H (fun v H' => DaAt H' v c)) (g : EvS tb σ H (fun v H' => DaAt H' v d)) (k : EvS tc σ H (fun v H' => DaAt H' v e')) : EvTu (tTup (tCons ta (tCons tb (tCons tc tNil)))) σ H [c, d, e'] := fun H1 e Q q =>
  h H1 e _ fun v H2 e2 hd => g H2 (e.trans e2) _ fun u H3 e3 he => k H3 ((e.trans e2).trans e3) _ fun t H4 e4 hf => ⟨by show 3 ≤ sizeLine; decide, fun p hp => q p _ _ (((e2.trans e3).trans e4).trans (Ex.new hp)) upd_same
    (DaL.cons (hd.ex ((e3.trans e4).trans (Ex.new hp))) (DaL.cons (he.ex (e4.trans (Ex.new hp))) (DaL.cons (hf.ex (Ex.new hp)) DaL.nil)))⟩
theorem es_int {i : Int} (h : Ev te σ H (.int i)) : EvS te σ H (fun v H' => DaAt H' v (.int i)) := fun H1 e Q q => h H1 e _ fun H2 e2 => q _ H2 e2 da_int
/-- i = (a new list of data) -/
theorem q_asgLD {i : Nat} {tz : TS} {D : Ends} (h : EvLD te σ H ds) (k : ∀ p H1 xs, H p = none → Ex H H1 → H1 p = some (.lst xs) → DaL H1 xs ds → tz D (σ.set i (some (.ref p))) H1) : tSeq (tAsg te (gName i)) tz D σ H := h H (Ex.refl H) _ fun p xs H1 hp e h1 hd => k p H1 xs hp e h1 hd
theorem s_asgLD {i : Nat} {D : Ends} (h : EvLD te σ H ds) (k : ∀ p H1 xs, H p = none → Ex H H1 → H1 p = some (.lst xs) → DaL H1 xs ds → D.nx (σ.set i (some (.ref p))) H1) : tAsg te (gName i) D σ H := h H (Ex.refl H) _ fun p xs H1 hp e h1 hd => k p H1 xs hp e h1 hd
theorem s_retLD {D : Ends} (h : EvLD te σ H ds) (k : ∀ p H1 xs, H p = none → Ex H H1 → H1 p = some (.lst xs) → DaL H1 xs ds → D.rt (.ref p) H1) : tRet te D σ H := h H (Ex.refl H) _ fun p xs H1 hp e h1 hd => k p H1 xs hp e h1 hd

/-! ### comprehensions over data -/
/-- a turn's target, test and value: f d is the value, or none where the test says no -/
def LcTurn (g : TG) (tt : TT) (te : TE) (vs : List Nat) (σ : L2.St) (H : Hp) (ds : List PyData) (f : PyData → Option PyData) : Prop :=
  ∀ (x : V) (d : PyData) (H1 : Hp) (Q : L2.St → Hp → Prop), Ex H H1 → DaAt H1 x d → d ∈ ds → (∀ σ2, wipe σ2 vs = wipe σ vs → EvT tt σ2 H1 (f d).isSome → (∀ e, f d = some e → EvS te σ2 H1 (fun v H' => DaAt H' v e)) → Q σ2 H1) → g x (wipe σ vs) H1 Q
def CwD (H1 : Hp) (ds : List PyData) (f : PyData → Option PyData) (D : Addr) (i : Nat) (H' : Hp) : Prop := H1 D = none ∧ Ex H1 H' ∧ ∃ ys, H' D = some (.lst ys) ∧ DaL H' ys ((ds.take i).filterMap f)
theorem tk_lst {H : Hp} {D : Addr} {ys zs : List V} (h : H D = some (.lst ys)) : TK H (upd H D (.lst zs)) := fun a xs ha => by
  rw [upd_ne (fun e => by rw [e, h] at ha; cases ha)]
  exact ha
theorem filterMap_len (f : PyData → Option PyData) (l : List PyData) : (l.filterMap f).length ≤ l.length := List.length_filterMap_le f l
theorem cwD_turn {H1 H' : Hp} {g : TG} {tt : TT} {te : TE} {vs : List Nat} {f : PyData → Option PyData} {D : Addr} {i : Nat} {x : V} {d : PyData} (p : CwD H1 ds f D i H') (hi : i < 50000) (hd : ds[i]? = some d) (hx : DaAt H1 x d) (T : LcTurn g tt te vs σ H1 ds f) :
    g x (wipe σ vs) H' fun σ2 H2 => wipe σ2 vs = wipe σ vs ∧ tt σ2 H2 fun b H3 => if b = true then te σ2 H3 fun y H4 => ∃ acc, H4 D = some (.lst acc) ∧ acc.length < sizeLine ∧ CwD H1 ds f D (i + 1) (upd H4 D (.lst (acc ++ [y]))) else CwD H1 ds f D (i + 1) H3 := by
  obtain ⟨p1, p2, ys, p3, p4⟩ := p
  have len : ys.length ≤ i := by
    rw [p4.length]
    exact Nat.le_trans (filterMap_len _ _) (by rw [List.length_take]; omega)
  refine T x d H' _ p2 (hx.ex p2) (List.mem_of_getElem? hd) fun σ2 hw ht he => ⟨hw, ht H' (Ex.refl H') _ fun H3 e3 => ?_⟩
  cases e : f d with
  | none =>
    rw [Option.isSome_none, if_neg Bool.false_ne_true]
    refine ⟨p1, p2.trans e3, ys, e3 _ _ p3, ?_⟩
    rw [List.take_add_one, hd, List.filterMap_append]
    simp only [Option.toList_some, List.filterMap_cons, e, List.filterMap_nil, List.append_nil]
    exact p4.ex e3
  | some z =>
    rw [Option.isSome_some, if_pos rfl]
    refine he z e H3 e3 _ fun y H4 e4 hy => ⟨ys, e4 _ _ (e3 _ _ p3), sz_lt (by omega), p1, Ex.mut ((p2.trans e3).trans e4) p1, ys ++ [y], upd_same, ?_⟩
    have k := tk_lst (zs := ys ++ [y]) (e4 _ _ (e3 _ _ p3))
    rw [List.take_add_one, hd, List.filterMap_append]
    simp only [Option.toList_some, List.filterMap_cons, e, List.filterMap_nil]
    exact DaL.snoc ((p4.ex (e3.trans e4)).keep k) (hy.keep k)
/-- [e for .. in a list if ..] -/
theorem eld_lc {tl : TE} {a : Addr} {xs : List V} {g : TG} {tt : TT} {vs : List Nat} (f : PyData → Option PyData) (h : Ev tl σ H (.ref a)) (hx : SqL K H a xs) (hd : DaL H xs ds) (hz : ds.length ≤ 40000) (T : LcTurn g tt te vs σ H ds f) :
    EvLD (tLc (iList K tl) g tt te vs) σ H (ds.filterMap f) := fun H0 e Q q => h H0 e _ fun H1 e1 => ⟨a, rfl, ⟨xs, ex_l (e.trans e1) hx⟩, fun D hD =>
  lc_list (xs := xs) (CwD H1 ds f D) ⟨hD, Ex.new hD, [], upd_same, by rw [List.take_zero]; exact DaL.nil⟩ (fun i H' _ p => ex_l ((e.trans e1).trans p.2.1) hx) (fun i x H' hi p => by
    obtain ⟨d, h1, h2⟩ := hd.got hi
    have := (List.getElem?_eq_some_iff.mp h1).1
    exact cwD_turn p (by omega) h1 (h2.ex (e.trans e1)) fun x d H2 Q2 e2 => T x d H2 Q2 ((e.trans e1).trans e2))
    (fun H' p => by
      obtain ⟨p1, p2, ys, p3, p4⟩ := p
      rw [List.take_of_length_le (by rw [hd.length]; exact Nat.le_refl _)] at p4
      exact q D ys H' (fresh_back e1 p1) (e1.trans p2) p3 p4)⟩
/-- .. over a tuple -/
theorem eld_lcT {tl : TE} {a : Addr} {xs : List V} {g : TG} {tt : TT} {vs : List Nat} (f : PyData → Option PyData) (h : Ev tl σ H (.ref a)) (hx : SqT K H a xs) (hd : DaL H xs ds) (hz : ds.length ≤ 40000) (T : LcTurn g tt te vs σ H ds f) :
    EvLD (tLc (iTup K tl) g tt te vs) σ H (ds.filterMap f) := fun H0 e Q q => h H0 e _ fun H1 e1 => ⟨a, rfl, ⟨xs, ex_t (e.trans e1) hx⟩, fun D hD =>
  lc_tup (xs := xs) (CwD H1 ds f D) ⟨hD, Ex.new hD, [], upd_same, by rw [List.take_zero]; exact DaL.nil⟩ (fun i H' _ p => ex_t ((e.trans e1).trans p.2.1) hx) (fun i x H' hi p => by
    obtain ⟨d, h1, h2⟩ := hd.got hi
    have := (List.getElem?_eq_some_iff.mp h1).1
    exact cwD_turn p (by omega) h1 (h2.ex (e.trans e1)) fun x d H2 Q2 e2 => T x d H2 Q2 ((e.trans e1).trans e2))
    (fun H' p => by
      obtain ⟨p1, p2, ys, p3, p4⟩ := p
      rw [List.take_of_length_le (by rw [hd.length]; exact Nat.le_refl _)] at p4
      exact q D ys H' (fresh_back e1 p1) (e1.trans p2) p3 p4)⟩

/-! ### a set of whole numbers by a comprehension -/
/-- a turn: f d is the number, or none where the test says no -/
def ScTurn (g : TG) (tt : TT) (te : TE) (vs : List Nat) (σ : L2.St) (H : Hp) (ds : List PyData) (f : PyData → Option Int) : Prop :=
  ∀ (x : V) (d : PyData) (H1 : Hp) (Q : L2.St → Hp → Prop), Ex H H1 → DaAt H1 x d → d ∈ ds → (∀ σ2, wipe σ2 vs = wipe σ vs → EvT tt σ2 H1 (f d).isSome → (∀ k, f d = some k → Ev te σ2 H1 (.int k)) → Q σ2 H1) → g x (wipe σ vs) H1 Q
def CwS (w : World) (H1 : Hp) (ds : List PyData) (f : PyData → Option Int) (D : Addr) (i : Nat) (H' : Hp) : Prop := H1 D = none ∧ Ex H1 H' ∧ ∃ (S : Int → Bool) (n : Nat), H' D = some (SetO w D S n) ∧ n ≤ i ∧ ∀ k, S k = decide (k ∈ (ds.take i).filterMap f)
theorem cwS_turn {w : World} {H1 H' : Hp} {g : TG} {tt : TT} {te : TE} {vs : List Nat} {f : PyData → Option Int} {D : Addr} {i : Nat} {x : V} {d : PyData} (p : CwS w H1 ds f D i H') (hi : i < 1000) (hd : ds[i]? = some d) (hx : DaAt H1 x d) (T : ScTurn g tt te vs σ H1 ds f) :
    g x (wipe σ vs) H' fun σ2 H2 => wipe σ2 vs = wipe σ vs ∧ tt σ2 H2 fun b H3 => if b = true then te σ2 H3 fun y H4 => ∃ (k : Int) (S : Int → Bool) (n : Nat), y = .int k ∧ H4 D = some (SetO w D S n) ∧ n + 1 < scanBound ∧ CwS w H1 ds f D (i + 1) (upd H4 D (SetO w D (fun j => S j || decide (j = k)) (if S k = true then n else n + 1))) else CwS w H1 ds f D (i + 1) H3 := by
  obtain ⟨p1, p2, S, n, p3, p4, p5⟩ := p
  refine T x d H' _ p2 (hx.ex p2) (List.mem_of_getElem? hd) fun σ2 hw ht he => ⟨hw, ht H' (Ex.refl H') _ fun H3 e3 => ?_⟩
  cases e : f d with
  | none =>
    rw [Option.isSome_none, if_neg Bool.false_ne_true]
    refine ⟨p1, p2.trans e3, S, n, e3 _ _ p3, by omega, fun k => ?_⟩
    rw [List.take_add_one, hd, List.filterMap_append]
    simp only [Option.toList_some, List.filterMap_cons, e, List.filterMap_nil, List.append_nil]
    exact p5 k
  | some z =>
    rw [Option.isSome_some, if_pos rfl]
    refine he z e H3 e3 _ fun H4 e4 => ⟨z, S, n, rfl, e4 _ _ (e3 _ _ p3), by unfold scanBound; omega, p1, Ex.mut ((p2.trans e3).trans e4) p1, _, _, upd_same, by split <;> omega, fun k => ?_⟩
    rw [List.take_add_one, hd, List.filterMap_append]
    simp only [Option.toList_some, List.filterMap_cons, e, List.filterMap_nil, p5 k, List.mem_append, List.mem_singleton]
    by_cases h1 : k ∈ List.filterMap f (List.take i ds) <;> by_cases h2 : k = z <;> simp [h1, h2]
/-- the number of unlike ones -/
def dd : List Int → List Int
  | [] => []
  | x :: xs => if x ∈ xs then dd xs else x :: dd xs
theorem mem_dd {k : Int} : ∀ {ns : List Int}, k ∈ dd ns ↔ k ∈ ns
  | [] => by simp [dd]
  | x :: xs => by
    have ih := mem_dd (k := k) (ns := xs)
    unfold dd
    split
    · rename_i h
      rw [ih, List.mem_cons]
      exact ⟨.inr, fun z => z.elim (fun e => e ▸ h) id⟩
    · rw [List.mem_cons, List.mem_cons, ih]
theorem nodup_dd : ∀ ns : List Int, (dd ns).Nodup
  | [] => by simp [dd]
  | x :: xs => by
    unfold dd
    split
    · exact nodup_dd xs
    · rename_i h
      exact List.nodup_cons.mpr ⟨fun z => h (mem_dd.mp z), nodup_dd xs⟩
def cnt (ns : List Int) : Nat := (dd ns).length
theorem nodup_same {a b : List Int} (ha : a.Nodup) (hb : b.Nodup) (h : ∀ k, k ∈ a ↔ k ∈ b) : a.length = b.length := (len_nodup hb fun k => h k).mpr ha |>.symm
theorem cnt_of {ks ns : List Int} (hk : ks.Nodup) (h : ∀ k, k ∈ ks ↔ k ∈ ns) : ks.length = cnt ns := by
  exact nodup_same hk (nodup_dd ns) fun k => (h k).trans mem_dd.symm
/-- len({e for .. in a list if ..}) -/
theorem ev_lenSci {w : World} {tl : TE} {a : Addr} {xs : List V} {g : TG} {tt : TT} {vs : List Nat} (f : PyData → Option Int) (h : Ev tl σ H (.ref a)) (hx : SqL K H a xs) (hd : DaL H xs ds) (hz : ds.length ≤ 500) (T : ScTurn g tt te vs σ H ds f) :
    Ev (tCB (rLenSO w) (tCons (tSci w (iList K tl) g tt te vs) tNil)) σ H (.int (cnt (ds.filterMap f) : Nat)) := fun H0 e Q q => h H0 e _ fun H1 e1 => ⟨a, rfl, ⟨xs, ex_l (e.trans e1) hx⟩, fun D hD => by
  refine ⟨fun i m H' => m = xs.length - i ∧ i ≤ xs.length ∧ CwS w H1 ds f D i H', ⟨xs.length, by simp, Nat.zero_le _, hD, Ex.new hD, _, _, upd_same, Nat.le_refl _, fun k => by simp⟩, ?_⟩
  rintro i m H' ⟨rfl, hi, p⟩
  have hl := hd.length
  have hq : SqL K H' a xs := ex_l ((e.trans e1).trans p.2.1) hx
  by_cases hlt : i < xs.length
  · refine .inr ⟨⟨xs, xs[i], hq, by simp [hlt]⟩, fun H2 => CwS w H1 ds f D (i + 1) H2, fun H2 p2 => ⟨xs.length - (i + 1), by omega, rfl, hlt, p2⟩, fun x H2 y => ?_⟩
    obtain ⟨e2, y⟩ := y
    subst e2
    obtain ⟨d, h1, h2⟩ := hd.got (y xs hq)
    exact cwS_turn p (by omega) h1 (h2.ex (e.trans e1)) fun x d H2 Q2 e2 => T x d H2 Q2 ((e.trans e1).trans e2)
  · have ei : i = xs.length := by omega
    subst ei
    obtain ⟨p1, p2, S, n, p3, p4, p5⟩ := p
    refine .inl ⟨⟨xs, hq, Nat.le_refl _⟩, D, S, n, rfl, p3, by omega, fun ks hk hm hn => ?_⟩
    rw [List.take_of_length_le (by omega)] at p5
    rw [← hn, cnt_of hk fun k => (hm k).trans (by rw [p5 k, decide_eq_true_eq])]
    exact q H' (e1.trans p2)⟩
end
end FsD

set_option Elab.async false
set_option linter.all false
set_option maxRecDepth 100000
set_option maxHeartbeats 4000000
/-! sets of seats, ascending -/
namespace Fs
open PySem PyProof.Rows L2 Evl FsE FsC FsV FsG FsW FsD LamX
/-- a row of whole numbers, as data -/
abbrev dR (r : List Int) : PyData := .tuple (r.map PyData.int)
theorem dal_ints {H : Hp} : ∀ {ns : List Int} {vs : List V}, DaL H vs (ns.map PyData.int) → vs = ns.map V.int
  | [], vs, h => by
    unfold DaL at h
    exact h
  | n :: ns, vs, h => by
    rw [List.map_cons] at h
    unfold DaL at h
    obtain ⟨v, ws, rfl, h1, h2⟩ := h
    rw [h1.int, dal_ints h2]
    rfl
theorem ints_dal {H : Hp} : ∀ {ns : List Int}, DaL H (ns.map V.int) (ns.map PyData.int)
  | [] => DaL.nil
  | n :: ns => DaL.cons da_int ints_dal
theorem da_row {H : Hp} {v : V} {r : List Int} (h : DaAt H v (dR r)) : ∃ a, v = .ref a ∧ H a = some (.tup (r.map V.int)) := by
  obtain ⟨a, xs, rfl, ha, hx⟩ := h.tup
  exact ⟨a, rfl, by rw [ha, dal_ints hx]⟩
theorem row_da {H : Hp} {a : Addr} {r : List Int} (h : H a = some (.tup (r.map V.int))) : DaAt H (.ref a) (dR r) := da_tup h ints_dal
/-- the numbers of the row at v -/
def rowAt (H : Hp) (v : V) : List Int := match v with
  | .ref a => (match H a with
    | some (.tup xs) => xs.map fun x => match x with
      | .int i => i
      | _ => 0
    | _ => [])
  | _ => []
theorem rowAt_eq {H : Hp} {a : Addr} {r : List Int} (h : H a = some (.tup (r.map V.int))) : rowAt H (.ref a) = r := by
  show (match H a with
    | some (.tup xs) => xs.map fun x => match x with
      | .int i => i
      | _ => 0
    | _ => ([] : List Int)) = r
  rw [h]
  simp [List.map_map, Function.comp_def]
theorem rows_at {H : Hp} : ∀ {rs : List (List Int)} {vs : List V}, DaL H vs (rs.map dR) → vs.map (rowAt H) = rs ∧ ∀ v ∈ vs, ∃ a, v = .ref a ∧ H a = some (.tup ((rowAt H v).map V.int))
  | [], vs, h => by
    unfold DaL at h
    subst h
    exact ⟨rfl, fun v hv => by cases hv⟩
  | r :: rs, vs, h => by
    rw [List.map_cons] at h
    unfold DaL at h
    obtain ⟨v, ws, rfl, h1, h2⟩ := h
    obtain ⟨a, rfl, ha⟩ := da_row h1
    obtain ⟨k1, k2⟩ := rows_at h2
    refine ⟨by rw [List.map_cons, k1, rowAt_eq ha], fun v hv => ?_⟩
    rcases List.mem_cons.mp hv with e | e
    · subst e
      exact ⟨a, rfl, by rw [rowAt_eq ha]; exact ha⟩
    · exact k2 v e
theorem rows_da {H : Hp} : ∀ {vs : List V} {f : V → List Int}, (∀ v ∈ vs, ∃ a, v = .ref a ∧ H a = some (.tup ((f v).map V.int))) → DaL H vs ((vs.map f).map dR)
  | [], f, _ => DaL.nil
  | v :: vs, f, h => by
    obtain ⟨a, e, ha⟩ := h v (List.mem_cons_self ..)
    refine DaL.cons ?_ (rows_da fun x hx => h x (List.mem_cons_of_mem _ hx))
    rw [e] at ha ⊢
    exact row_da ha
/-- all sets of the first n seats, as they are made -/
def subsL : Nat → List (List Int)
  | 0 => [[]]
  | n + 1 => subsL n ++ (subsL n).map fun r => r ++ [(n : Int)]
/-- those of at least one seat, those with fewer seats first -/
def setsL (n : Nat) : List (List Int) := ((subsL n).drop 1).mergeSort leR
theorem subs_len : ∀ n : Nat, (subsL n).length = 2 ^ n
  | 0 => rfl
  | n + 1 => by
    unfold subsL
    rw [List.length_append, List.length_map, subs_len n]
    omega
theorem subs_row : ∀ {n : Nat} {r : List Int}, r ∈ subsL n → r.length ≤ n
  | 0, r, h => by
    rw [List.mem_singleton.mp h]
    exact Nat.le_refl _
  | n + 1, r, h => by
    unfold subsL at h
    rcases List.mem_append.mp h with h | h
    · exact Nat.le_succ_of_le (subs_row h)
    · obtain ⟨q, hq, rfl⟩ := List.mem_map.mp h
      have := subs_row hq
      rw [List.length_append]
      exact Nat.succ_le_succ this
/-- chosen + (seat,) -/
def addSeat (i : Nat) : PyData → Option PyData
  | .tuple ds => some (.tuple (ds ++ [.int (i : Int)]))
  | _ => none
theorem add_map {i : Nat} : ∀ {rs : List (List Int)}, (rs.map dR).filterMap (addSeat i) = (rs.map fun r => r ++ [(i : Int)]).map dR
  | [] => rfl
  | r :: rs => by
    have ih := add_map (i := i) (rs := rs)
    rw [List.map_cons, List.map_cons, List.map_cons, ← ih, List.filterMap_cons]
    simp [addSeat, List.map_append]
structure SeaT (K : PySem.W.Frag) (mg : Str → Option Value) : Prop where
  len : mg "len" = none
  range : mg "range" = none
  sorted : mg "sorted" = none
/-- the name of the lambda, the tables in which its code stands -/
def lamQ : Str := (envOfC "sets_of_seats" (defScope (topS 4)) 0 0 .none).qual ++ "<lambda>"
abbrev tabQ (P : Addr) : List (Addr × Str) := [(P, lamQ)]
section
variable {P : Program} {w : World} {K : PySem.W.Frag} {mg : Str → Option Value} {base : Heap}
/-- a def whose code object stands at c -/
theorem fun_okC {x qual : Str} {st : Stmt} {f c : Addr} {fd : FuncData} {N ps : List Str} {k : Nat} {sp : Sp} (F : Fun K x qual st f fd) (hc : fd.code = .ref c) (S : FnScope N ps (defScope st)) (len : ∀ vs H Q E, sp vs H Q E → vs.length = ps.length)
    (hbody : ∀ (A : Around) (outer : List Env) (s : Shared) (H : Hp) (vs : List V) (Q : VK) (E : XK), Room k (A.deeper (envOfC qual (defScope st) s.heap.objs.size f (.ref c))) → sp vs H Q E →
      ∃ t, PSs (cxOf CX0 P w K mg base N qual (defScope st) f (.ref c) A outer s H E).nox (defBody st) t ∧ t { nx := fun _ H' => Q .non H', rt := Q } (start N vs) H) : FnOk P w K mg base CX0 (k + 1) f fd ps sp := by
  obtain ⟨oc, od, kV, doc, pm, an, cdv, ct, osl, e, lk, hcd⟩ := F.ex
  subst e
  obtain rfl : cdv = .ref c := hc
  refine fn_of lk hcd S len fun A outer s H vs Q E hr hsp => ?_
  obtain ⟨t, h, q⟩ := hbody A outer s H vs Q E hr hsp
  exact ⟨t, h.nox, q⟩
theorem cutV_1 {xs : List V} : cutV xs (some 1) none = xs.drop 1 := by
  unfold cutV
  cases xs with
  | nil => simp
  | cons x xs => simp [HT.sIx]
/-- sets_of_seats(seats) -/
def spSets (PT : Addr) : Sp := fun vs H Q _ => ∃ n : Nat, vs = [.int (n : Int)] ∧ n ≤ 4 ∧ Tabs (tabQ PT) H ∧ ∀ (H2 : Hp) (p : Addr) (ys : List V), LamX.ExtN H H2 → Tabs (tabQ PT) H2 → H2 p = some (.lst ys) → DaL H2 ys ((setsL n).map dR) → Q (.ref p) H2
abbrev nsSets : List Str := ["seats", "found", "seat", "chosen"]
theorem scSets : FnScope nsSets ["seats"] (defScope (topS 4)) := ⟨rfl, rfl, rfl, by decide +kernel, rfl, by decide +kernel, by decide +kernel⟩
def lamOf : Stmt → Arguments × Expr × Scope
  | .Return (some (.Call _ _ [⟨_, .Lambda a b s _, _⟩] _)) _ => (a, b, s)
  | _ => (⟨[], [], none, [], [], none, []⟩, .Constant .none 0 ⟨0, 0, 0, 0⟩, ⟨.function, [], false, false, []⟩)
abbrev lamT : Arguments × Expr × Scope := lamOf ((defBody (topS 4)).getD 2 (.Pass ⟨0, 0, 0, 0⟩))
theorem lam_ok : LamR lamQ lamT.1 lamT.2.1 lamT.2.2 := ⟨by decide +kernel, by decide +kernel, by decide +kernel, by decide +kernel, by decide +kernel, ⟨"row", _, _, _, _, _, _, rfl, by decide +kernel, by decide +kernel, by decide +kernel, fun _ _ _ _ => rfl⟩⟩
theorem subs_dr {n : Nat} {H : Hp} {xs : List V} (h : DaL H xs ((subsL n).map dR)) : DaL H (xs.drop 1) (((subsL n).drop 1).map dR) := by
  have := h.drop 1
  rwa [← List.map_drop] at this
theorem ok_sets {f c PT : Addr} {fd : FuncData} (F : Fun K "sets_of_seats" "sets_of_seats" (topS 4) f fd) (hc : fd.code = .ref c) (TB : TabB base mg c PT) (T : SeaT K mg) : FnOk P w K mg base CX0 4 f fd ["seats"] (spSets PT) := by
  refine fun_okC F hc scSets (fun vs H Q E h => ?_) (fun A outer s H vs Q E hr h => ?_)
  · obtain ⟨n, rfl, _⟩ := h
    rfl
  · obtain ⟨n, rfl, hn, hT, q⟩ := h
    refine ⟨_, pss_cons (ps_set (i := 1) scSets.nd rfl (Or.inl rfl) (pe_lst (pa_cons (pe_tup pa_nil) pa_nil)))
      (pss_cons (ps_for PassesOwn.never rfl (pi_range1 rfl T.range (pa_cons (pv 0) pa_nil)) (pg_name (i := 2) scSets.nd rfl (Or.inr rfl))
        (pss_one (ps_set (i := 1) scSets.nd rfl (Or.inl rfl) (pe_op op_cat (pv 1) (pe_lc (own := [("chosen", 3)]) (g := gName 3) (tt := tYes) (te := tOp (rCatA K) (tVar 3) (tTup (tCons (tVar 2) tNil))) rfl scSets.nd (pi_list (pv 1)) (blkOk_by (own := [("chosen", 3)]) (N := nsSets) (sc := defScope (topS 4)) (by decide +kernel))
          (fun _ _ _ _ _ => pg_name (i := 3) scSets.nd rfl (.inl rfl)) (fun _ _ _ _ _ => pts_nil) (fun _ _ _ _ _ => pe_op op_catA (pv 3) (pe_tup (pa_cons (pv 2) pa_nil))))))))
      (pss_one (ps_ret (pe_sortLR (T := tabQ PT) (c := c) (P := PT) (pe_slice sl_list (pv 1) (po_some pe_int) po_none) (by rfl) T.sorted T.len TB rfl (by exact List.mem_singleton.mpr rfl) (fun p hp _ => by rw [List.mem_singleton.mp hp]; rfl) lam_ok rfl rfl (hr.mono (by decide)))))), ?_⟩
    refine q_asgLD (eld_1 (es_tu etu_nil)) (fun l H1 ys hl e1 h1 d1 => ?_)
    refine q_forR1 (n := (n : Int)) (ea_cons (ev_var rfl) ea_nil) (by omega) (fun i σ' H' => ∃ (l' : Addr) (ys : List V) (v2 : Option V), σ' = [some (.int (n : Int)), some (.ref l'), v2, none] ∧ H' l' = some (.lst ys) ∧ DaL H' ys ((subsL i).map dR) ∧ Ex H H')
      (fun H2 e2 => ⟨l, ys, none, rfl, e2 _ _ h1, d1.ex e2, e1.trans e2⟩) (fun i σ' H' hi ⟨l', ys, v2, hσ, hl', hd, he⟩ => ?_) (fun σ' H' ⟨l', ys, v2, hσ, hl', hd, he⟩ => ?_)
    · subst hσ
      have few : (subsL i).length ≤ 16 := by
        rw [subs_len]
        exact Nat.pow_le_pow_right (n := 2) (by decide) (by omega : i ≤ 4)
      have hn2 : i ≤ 4 := by omega
      have T0 : LcTurn (gName 3) tYes (tOp (rCatA K) (tVar 3) (tTup (tCons (tVar 2) tNil))) [3] [some (.int (n : Int)), some (.ref l'), some (.int (i : Int)), none] H' ((subsL i).map dR) (addSeat i) := fun x d H2 Q2 e2 hx hm k => by
        obtain ⟨r, hr, rfl⟩ := List.mem_map.mp hm
        have hl2 : r.length ≤ 4 := Nat.le_trans (subs_row hr) hn2
        refine k [some (.int (n : Int)), some (.ref l'), some (.int (i : Int)), some x] rfl et_nil (fun e he => ?_)
        have := Option.some.inj he
        subst this
        exact es_tu (etu_cat (etu_da (ev_var rfl) hx) (etu_1 (es_int (ev_var rfl))) (by rw [List.length_map]; exact Nat.le_trans (Nat.add_le_add_right hl2 1) (by decide)))
      refine s_asgLD (i := 1) (eld_catV (ev_var rfl) hl' hd (eld_lc (addSeat i) (ev_var rfl) (sq_of hl') hd (by rw [List.length_map]; omega) T0) ?_) (fun p H2 xs hp e2 h2 d2 => ⟨p, xs, _, rfl, h2, ?_, he.trans e2⟩)
      · rw [List.length_map, add_map, List.length_map, List.length_map]
        omega
      · rw [add_map, ← List.map_append] at d2
        exact d2
    · subst hσ
      have h0 : (n : Int).toNat = n := rfl
      rw [h0] at hd
      refine (el_sl (K := K) (ev_var (i := 1) rfl) (eo_some ev_c) eo_none (sq_of hl')) H' (Ex.refl H') _ fun p H2 hp e2 h2 => ?_
      rw [cutV_1] at h2
      obtain ⟨k1, k2⟩ := rows_at ((subs_dr hd).ex e2)
      have e02 := he.trans e2
      refine ⟨p, _, rowAt H2, rfl, h2, k2, hT.ext e02, fun H3 ys3 r eN T3 hperm hmap hr3 => ?_⟩
      refine q _ r ys3 (((ExtN.of e02).trans eN).trans (ExtN.of (Ex.new hr3))) (T3.ext (Ex.new hr3)) upd_same ?_
      have es : ys3.map (rowAt H2) = setsL n := by
        rw [hmap, k1]
        rfl
      rw [← es]
      refine rows_da fun v hv => ?_
      obtain ⟨a, e, ha⟩ := k2 v (hperm.mem_iff.mp hv)
      have h3 := eN a _ ha (fun ps z => by cases z)
      exact ⟨a, e, (Ex.new hr3) _ _ h3⟩
end
end Fs

set_option Elab.async false
set_option linter.all false
set_option maxRecDepth 100000
set_option maxHeartbeats 4000000
/-! least_bar, left_for_others -/
namespace Fs
open PySem PyProof.Rows L2 Evl FsE FsC FsV FsG FsW FsD LamX
/-- an entry: machine, place, seat -/
abbrev Ent := Int × Int × Int
abbrev dE (e : Ent) : PyData := dR [e.1, e.2.1, e.2.2]
/-- how many machines stand at these seats -/
def mach (es : List Ent) (r : List Int) : Nat := FsD.cnt ((es.filter fun e => decide (e.2.2 ∈ r)).map (·.1))
def isBar (es : List Ent) (r : List Int) : Bool := decide (mach es r < r.length)
def barOf (n : Nat) (es : List Ent) : Option (List Int) := (setsL n).find? (isBar es)
/-- the others' entries at the seats behind -/
def leftF (t : Int) (e : Ent) : Option Ent := if 0 < e.2.2 ∧ e.1 ≠ t then some (e.1, e.2.1, e.2.2 - 1) else none
def leftL (t : Int) (es : List Ent) : List Ent := es.filterMap (leftF t)
theorem da_ent {H : Hp} {v : V} {e : Ent} (h : DaAt H v (dE e)) : ∃ a, v = .ref a ∧ H a = some (.tup [.int e.1, .int e.2.1, .int e.2.2]) := da_row h
/-- machine, place, seat = x -/
theorem g_ent {K : PySem.W.Frag} {H : Hp} {σ : L2.St} {x : V} {e : Ent} {i j k : Nat} {Q : L2.St → Hp → Prop} (h : DaAt H x (dE e)) (q : Q (((σ.set i (some (.int e.1))).set j (some (.int e.2.1))).set k (some (.int e.2.2))) H) :
    gTup K 3 (gCons (gName i) (gCons (gName j) (gCons (gName k) gNil))) x σ H Q := by
  obtain ⟨a, rfl, ha⟩ := da_ent h
  exact ⟨a, _, rfl, st_of ha, rfl, _, _, rfl, _, _, rfl, _, _, rfl, rfl, q⟩
theorem find_at {α : Type} {f : α → Bool} : ∀ {xs : List α} {i : Nat} {x : α}, xs[i]? = some x → f x = true → (∀ (j : Nat) (y : α), j < i → xs[j]? = some y → f y = false) → xs.find? f = some x
  | [], i, x, h, _, _ => by simp at h
  | y :: ys, 0, x, h, hx, _ => by
    rw [List.getElem?_cons_zero] at h
    cases h
    rw [List.find?_cons, hx]
  | y :: ys, i + 1, x, h, hx, hn => by
    rw [List.getElem?_cons_succ] at h
    rw [List.find?_cons, hn 0 y (Nat.zero_lt_succ i) rfl]
    exact find_at h hx fun j z hj hz => hn (j + 1) z (Nat.succ_lt_succ hj) (by rw [List.getElem?_cons_succ]; exact hz)
theorem find_none {α : Type} {f : α → Bool} {xs : List α} (hn : ∀ (j : Nat) (y : α), xs[j]? = some y → f y = false) : xs.find? f = none := by
  rw [List.find?_eq_none]
  intro x hx
  obtain ⟨j, hj⟩ := List.getElem?_of_mem hx
  rw [hn j x hj]
  exact Bool.false_ne_true
def machF (r : List Int) : PyData → Option Int
  | .tuple [.int m, _, .int s] => if s ∈ r then some m else none
  | _ => none
theorem machF_map {r : List Int} : ∀ {es : List Ent}, (es.map dE).filterMap (machF r) = (es.filter fun e => decide (e.2.2 ∈ r)).map (·.1)
  | [] => rfl
  | e :: es => by
    have ih := machF_map (r := r) (es := es)
    rw [List.map_cons, List.filterMap_cons, List.filter_cons]
    by_cases h : e.2.2 ∈ r
    · simp only [machF, dE, dR, List.map_cons, List.map_nil, if_pos h, h, decide_true, if_true]
      rw [ih]
    · simp only [machF, dE, dR, List.map_cons, List.map_nil, if_neg h, h, decide_false, Bool.false_eq_true, if_false]
      exact ih
def leftD (t : Int) : PyData → Option PyData
  | .tuple [.int m, .int p, .int s] => if 0 < s ∧ m ≠ t then some (dE (m, p, s - 1)) else none
  | _ => none
theorem leftD_map {t : Int} : ∀ {es : List Ent}, (es.map dE).filterMap (leftD t) = (leftL t es).map dE
  | [] => rfl
  | e :: es => by
    have ih := leftD_map (t := t) (es := es)
    unfold leftL at ih ⊢
    rw [List.map_cons, List.filterMap_cons, List.filterMap_cons]
    by_cases h : 0 < e.2.2 ∧ e.1 ≠ t
    · simp only [leftD, leftF, dE, dR, List.map_cons, List.map_nil, if_pos h]
      rw [← ih]
    · simp only [leftD, leftF, dE, dR, List.map_cons, List.map_nil, if_neg h]
      exact ih
section
variable {P : Program} {w : World} {K : PySem.W.Frag} {mg : Str → Option Value} {base : Heap}
theorem row_in {r : List Int} {s : Int} : inV (.int s) (r.map V.int) = decide (s ∈ r) := by
  unfold inV
  rw [List.any_map, Bool.eq_iff_iff, List.any_eq_true]
  simp only [decide_eq_true_eq, Function.comp_apply, eqV, beq_iff_eq]
  exact ⟨fun ⟨x, h1, h2⟩ => h2 ▸ h1, fun h => ⟨s, h, rfl⟩⟩
theorem row_flat {r : List Int} : (r.map V.int).all flatV = true := by
  induction r with
  | nil => rfl
  | cons x r ih => simp [flatV]
/-- least_bar(seats, entries) -/
def spBar (PT : Addr) : Sp := fun vs H Q _ => ∃ (n : Nat) (l : Addr) (xs : List V) (es : List Ent), vs = [.int (n : Int), .ref l] ∧ n ≤ 4 ∧ H l = some (.lst xs) ∧ DaL H xs (es.map dE) ∧ es.length ≤ 400 ∧ Tabs (tabQ PT) H ∧
  ∀ (H2 : Hp) (v : V), LamX.ExtN H H2 → Tabs (tabQ PT) H2 → (barOf n es = none → v = .non) → (∀ r, barOf n es = some r → DaAt H2 v (dR r)) → Q v H2
abbrev nsBar : List Str := ["seats", "entries", "chosen", "machine", "place", "seat"]
theorem scBar : FnScope nsBar ["seats", "entries"] (defScope (topS 2)) := ⟨rfl, rfl, rfl, by decide +kernel, rfl, by decide +kernel, by decide +kernel⟩
theorem ok_bar {f PT : Addr} {fd : FuncData} (F : Fun K "least_bar" "least_bar" (topS 2) f fd) (GS : CalX P w K mg base CX0 4 "sets_of_seats" (spSets PT)) (T : SeaT K mg) : FnOk P w K mg base CX0 5 f fd ["seats", "entries"] (spBar PT) := by
  refine F.ok scBar (fun vs H Q E h => ?_) (fun cdv A outer s H vs Q E hr h => ?_)
  · obtain ⟨n, l, xs, es, rfl, _⟩ := h
    rfl
  · obtain ⟨n, l, xs, es, rfl, hn, hl, hd, hz, hT, q⟩ := h
    refine ⟨_, pss_cons (ps_for PassesOwn.never rfl (pi_list (pe_cx (E := fun _ => E0) GS hr (by decide) (by rfl) at0 (pa_cons (pv 0) pa_nil))) (pg_name (i := 2) scBar.nd rfl (Or.inr rfl))
        (pss_one (ps_if (pt_cmpR op_lt (pe_callB cr_lenSO (by rfl) T.len PySem.boot_len (pa_cons (pe_sci (own := [("machine", 3), ("place", 4), ("seat", 5)]) (g := gTup K 3 (gCons (gName 3) (gCons (gName 4) (gCons (gName 5) gNil)))) (tt := tTest (tOp (rIn K false) (tVar 5) (tVar 2))) (te := tVar 3) rfl scBar.nd (pi_list (pv 1)) (blkOk_by (own := [("machine", 3), ("place", 4), ("seat", 5)]) (N := nsBar) (sc := defScope (topS 2)) (by decide +kernel))
            (fun _ _ _ _ _ => pg_tup rfl (pgs_cons (pg_name (i := 3) scBar.nd rfl (.inl rfl)) (pgs_cons (pg_name (i := 4) scBar.nd rfl (.inl rfl)) (pgs_cons (pg_name (i := 5) scBar.nd rfl (.inl rfl)) pgs_nil)))) (fun _ _ _ _ _ => pts_one (pt_cmpR op_in_seq (pv 5) (pv 2) (by rfl))) (fun _ _ _ _ _ => pv 3)) pa_nil))
          (pe_callB call_len_seq (by rfl) T.len PySem.boot_len (pa_cons (pv 2) pa_nil)) (nomark _)) (pss_one (ps_ret (pv 2))) pss_nil)))
      (pss_one (ps_ret pe_non)), ?_⟩
    refine ⟨_, rfl, n, rfl, hn, hT, fun H1 p ys e1 T1 h1 d1 => ⟨p, rfl, ⟨ys, sq_of h1⟩, ?_⟩⟩
    refine for_list (K := K) (xs := ys) (fun i σ' H' => ∃ v2 : Option V, σ' = [some (.int (n : Int)), some (.ref l), v2, none, none, none] ∧ LamX.ExtN H H' ∧ Tabs (tabQ PT) H' ∧ H' p = some (.lst ys) ∧ DaL H' ys ((setsL n).map dR) ∧ H' l = some (.lst xs) ∧ DaL H' xs (es.map dE) ∧ ∀ (j : Nat) (r : List Int), j < i → (setsL n)[j]? = some r → isBar es r = false)
      ⟨none, rfl, e1, T1, h1, d1, e1 _ _ hl (fun ps z => by cases z), hd.keep (fun a zs ha => e1 _ _ ha (fun ps z => by cases z)), fun j r hj => absurd hj (Nat.not_lt_zero j)⟩
      (fun i σ' H' _ ⟨_, _, _, _, k, _⟩ => sq_of k) (fun i x σ' H' hx ⟨v2, hσ, e', T', hp', dp', hl', dl', hno⟩ => ?_) (fun σ' H' ⟨v2, hσ, e', T', hp', dp', hl', dl', hno⟩ => ?_)
    · subst hσ
      obtain ⟨d, hd1, hd2⟩ := dp'.got hx
      rw [List.getElem?_map] at hd1
      obtain ⟨r, hr1, rfl⟩ := Option.map_eq_some_iff.mp hd1
      obtain ⟨a, rfl, ha⟩ := da_row hd2
      have T0 : ScTurn (gTup K 3 (gCons (gName 3) (gCons (gName 4) (gCons (gName 5) gNil)))) (tTest (tOp (rIn K false) (tVar 5) (tVar 2))) (tVar 3) [3, 4, 5] [some (.int (n : Int)), some (.ref l), some (.ref a), none, none, none] H' (es.map dE) (machF r) := fun x d H2 Q2 e2 hx2 hm k => by
        obtain ⟨e, he, rfl⟩ := List.mem_map.mp hm
        refine g_ent (σ := [some (.int (n : Int)), some (.ref l), some (.ref a), none, none, none]) hx2 (k _ rfl ?_ fun z hz => ?_)
        · refine et_is (et_test (ev_op (ev_var (i := 5) rfl) (ev_var (i := 2) rfl) (rv_isT (st_of (e2 _ _ ha)) rfl row_flat))) ?_
          rw [row_in]
          simp only [machF, dE, dR, List.map_cons, List.map_nil]
          by_cases h : e.2.2 ∈ r <;> simp [h]
        · simp only [machF, dE, dR, List.map_cons, List.map_nil] at hz
          by_cases h : e.2.2 ∈ r
          · rw [if_pos h] at hz
            cases hz
            exact ev_var (i := 3) rfl
          · rw [if_neg h] at hz
            cases hz
      have ec : Ev (tCB (rLenSO w) (tCons (tSci w (iList K (tVar 1)) (gTup K 3 (gCons (gName 3) (gCons (gName 4) (gCons (gName 5) gNil)))) (tTest (tOp (rIn K false) (tVar 5) (tVar 2))) (tVar 3) [3, 4, 5]) tNil)) [some (.int (n : Int)), some (.ref l), some (.ref a), none, none, none] H' (.int (mach es r : Nat)) := by
        have := ev_lenSci (K := K) (w := w) (machF r) (ev_var (i := 1) rfl) (sq_of hl') dl' (by rw [List.length_map]; omega) T0
        rw [machF_map] at this
        exact this
      refine s_when (b := isBar es r) (et_is (et_test (ev_op ec (ev_lenT (ev_var (i := 2) rfl) (st_of ha)) rv_I0)) ?_) (fun hb H3 e3 => ?_) (fun hb H3 e3 => ?_)
      · unfold isBar
        rw [List.length_map, Bool.eq_iff_iff]
        simp only [decide_eq_true_eq]
        omega
      · refine s_ret (v := .ref a) (ev_var (i := 2) rfl) (fun H4 e4 => ?_)
        have hf : barOf n es = some r := find_at hr1 hb hno
        refine q H4 (.ref a) ((e'.trans (ExtN.of e3)).trans (ExtN.of e4)) ((T'.ext e3).ext e4) (fun z => by rw [hf] at z; cases z) (fun r' z => ?_)
        rw [hf] at z
        cases z
        exact hd2.ex (e3.trans e4)
      · refine ⟨_, rfl, e'.trans (ExtN.of e3), T'.ext e3, e3 _ _ hp', dp'.ex e3, e3 _ _ hl', dl'.ex e3, fun j r' hj hr' => ?_⟩
        by_cases hji : j < i
        · exact hno j r' hji hr'
        · have : j = i := by omega
          subst this
          rw [hr1] at hr'
          cases hr'
          exact hb
    · subst hσ
      have hf : barOf n es = none := find_none fun j r hj => hno j r (by
        have h1 := (List.getElem?_eq_some_iff.mp hj).1
        have h2 := dp'.length
        rw [List.length_map] at h2
        omega) hj
      show tRet (tC .non) { nx := fun _ H' => Q .non H', rt := Q } [some (.int (n : Int)), some (.ref l), v2, none, none, none] H'
      refine s_ret (v := .non) ev_c ?_
      intro H3 e3
      exact q H3 .non (e'.trans (ExtN.of e3)) (T'.ext e3) (fun _ => rfl) (fun r z => by rw [hf] at z; cases z)
/-- left_for_others(taken, entries) -/
def spLeft : Sp := fun vs H Q _ => ∃ (t : Int) (l : Addr) (xs : List V) (es : List Ent), vs = [.int t, .ref l] ∧ H l = some (.lst xs) ∧ DaL H xs (es.map dE) ∧ es.length ≤ 400 ∧
  ∀ (p : Addr) (H2 : Hp) (ys : List V), H p = none → Ex H H2 → H2 p = some (.lst ys) → DaL H2 ys ((leftL t es).map dE) → Q (.ref p) H2
abbrev nsLeft : List Str := ["taken", "entries", "machine", "place", "seat"]
theorem scLeft : FnScope nsLeft ["taken", "entries"] (defScope (topS 3)) := ⟨rfl, rfl, rfl, by decide +kernel, rfl, by decide +kernel, by decide +kernel⟩
theorem ok_left {f : Addr} {fd : FuncData} (F : Fun K "left_for_others" "left_for_others" (topS 3) f fd) : FnOk P w K mg base CX0 1 f fd ["taken", "entries"] spLeft := by
  refine F.ok scLeft (fun vs H Q E h => ?_) (fun cdv A outer s H vs Q E hr h => ?_)
  · obtain ⟨t, l, xs, es, rfl, _⟩ := h
    rfl
  · obtain ⟨t, l, xs, es, rfl, hl, hd, hz, q⟩ := h
    refine ⟨_, pss_one (ps_ret (pe_lc (own := [("machine", 2), ("place", 3), ("seat", 4)]) (g := gTup K 3 (gCons (gName 2) (gCons (gName 3) (gCons (gName 4) gNil)))) (tt := tAnd (tTest (tOp (rI0 fun i j => .bl (decide (i > j))) (tVar 4) (tC (.int 0)))) (tTest (tOp rNe (tVar 2) (tVar 0)))) (te := tTup (tCons (tVar 2) (tCons (tVar 3) (tCons (tOp (rI0 fun i j => .int (i - j)) (tVar 4) (tC (.int 1))) tNil)))) rfl scLeft.nd (pi_list (pv 1)) (blkOk_by (own := [("machine", 2), ("place", 3), ("seat", 4)]) (N := nsLeft) (sc := defScope (topS 3)) (by decide +kernel))
        (fun _ _ _ _ _ => pg_tup rfl (pgs_cons (pg_name (i := 2) scLeft.nd rfl (.inl rfl)) (pgs_cons (pg_name (i := 3) scLeft.nd rfl (.inl rfl)) (pgs_cons (pg_name (i := 4) scLeft.nd rfl (.inl rfl)) pgs_nil)))) (fun _ _ _ _ _ => pts_one (PW.pt (pw_and (pt_cmpR op_gt (pv 4) pe_int (nomark _)) (pw_and1 (pt_cmpR op_ne (pv 2) (pv 0) (nomark _)))))) (fun _ _ _ _ _ => pe_tup (pa_cons (pv 2) (pa_cons (pv 3) (pa_cons (pe_op op_sub (pv 4) pe_int) pa_nil)))))), ?_⟩
    have T0 : LcTurn (gTup K 3 (gCons (gName 2) (gCons (gName 3) (gCons (gName 4) gNil)))) (tAnd (tTest (tOp (rI0 fun i j => .bl (decide (i > j))) (tVar 4) (tC (.int 0)))) (tTest (tOp rNe (tVar 2) (tVar 0)))) (tTup (tCons (tVar 2) (tCons (tVar 3) (tCons (tOp (rI0 fun i j => .int (i - j)) (tVar 4) (tC (.int 1))) tNil)))) [2, 3, 4] [some (.int t), some (.ref l), none, none, none] H (es.map dE) (leftD t) := fun x d H2 Q2 e2 hx2 hm k => by
      obtain ⟨e, he, rfl⟩ := List.mem_map.mp hm
      refine g_ent (σ := [some (.int t), some (.ref l), none, none, none]) hx2 (k _ rfl ?_ fun z hz => ?_)
      · refine et_is (et_and (et_test (ev_op (ev_var (i := 4) rfl) ev_c rv_I0)) (fun _ => et_test (ev_op (ev_var (i := 2) rfl) (ev_var (i := 0) rfl) (rv_ne rfl)))) ?_
        simp only [leftD, dE, dR, List.map_cons, List.map_nil]
        by_cases h1 : 0 < e.2.2 <;> by_cases h2 : e.1 = t <;> simp [h1, h2]
      · simp only [leftD, dE, dR, List.map_cons, List.map_nil] at hz
        by_cases h : 0 < e.2.2 ∧ e.1 ≠ t
        · rw [if_pos h] at hz
          cases hz
          exact es_tu (etu_3 (es_int (ev_var (i := 2) rfl)) (es_int (ev_var (i := 3) rfl)) (es_int (ev_op (ev_var (i := 4) rfl) ev_c rv_I0)))
        · rw [if_neg h] at hz
          cases hz
    exact s_retLD (eld_is (eld_lc (leftD t) (ev_var (i := 1) rfl) (sq_of hl) hd (by rw [List.length_map]; omega) T0) leftD_map) (fun p H1 ys hp e1 h1 d1 => q p H1 ys hp e1 h1 d1)
end
end Fs

set_option Elab.async false
set_option linter.all false
set_option maxRecDepth 100000
set_option maxHeartbeats 4000000
/-! seatings, asked for its first one; first_seating -/
namespace Fs
open PySem PyProof.Rows L2 Evl FsE FsC FsV FsG FsW FsD LamX
/-! ### entries in order -/
def codeE (e : Ent) : Int := e.1 * 64 + e.2.1 * 8 + e.2.2
def EntB (e : Ent) : Prop := (0 ≤ e.1 ∧ e.1 < 8) ∧ (0 ≤ e.2.1 ∧ e.2.1 < 8) ∧ (0 ≤ e.2.2 ∧ e.2.2 < 8)
abbrev row3 (e : Ent) : List Int := [e.1, e.2.1, e.2.2]
def leE (a b : Ent) : Bool := decide (codeE a ≤ codeE b)
def sortE (es : List Ent) : List Ent := es.mergeSort leE
def EsOk (es : List Ent) : Prop := es.length < 64 ∧ ∀ e ∈ es, EntB e
theorem code_row (e : Ent) : TS.code 8 (row3 e) = codeE e := by
  obtain ⟨m, p, s⟩ := e
  show m * 8 ^ 2 + (p * 8 ^ 1 + (s * 8 ^ 0 + 0)) = m * 64 + p * 8 + s
  have e2 : (8 : Int) ^ 2 = 64 := by decide
  have e1 : (8 : Int) ^ 1 = 8 := by decide
  have e0 : (8 : Int) ^ 0 = 1 := by decide
  rw [e2, e1, e0]
  omega
theorem codeE_inj {a b : Ent} (ha : EntB a) (hb : EntB b) (h : codeE a = codeE b) : a = b := by
  obtain ⟨m, p, s⟩ := a
  obtain ⟨m', p', s'⟩ := b
  obtain ⟨⟨a1, a2⟩, ⟨a3, a4⟩, a5, a6⟩ := ha
  obtain ⟨⟨b1, b2⟩, ⟨b3, b4⟩, b5, b6⟩ := hb
  simp only [codeE] at *
  have h1 : m = m' := by omega
  have h2 : p = p' := by omega
  have h3 : s = s' := by omega
  rw [h1, h2, h3]
theorem sortE_perm (es : List Ent) : (sortE es).Perm es := List.mergeSort_perm _ _
theorem leE_trans (a b c : Ent) (h1 : leE a b = true) (h2 : leE b c = true) : leE a c = true := by
  simp only [leE, decide_eq_true_eq] at *
  omega
theorem leE_total (a b : Ent) : (leE a b || leE b a) = true := by
  simp only [leE, Bool.or_eq_true, decide_eq_true_eq]
  omega
theorem sortE_sorted (es : List Ent) : (sortE es).Pairwise (fun a b => codeE a ≤ codeE b) := by
  have := List.pairwise_mergeSort (le := leE) leE_trans leE_total es
  exact this.imp fun h => by simpa [leE] using h
theorem EsOk.sort {es : List Ent} (h : EsOk es) : EsOk (sortE es) := ⟨by rw [(sortE_perm es).length_eq]; exact h.1, fun e he => h.2 e ((sortE_perm es).mem_iff.mp he)⟩
/-- what is sorted is this -/
theorem sortE_uniq {es rs : List Ent} (h : EsOk es) (hp : rs.Perm es) (hs : rs.Pairwise (fun a b => codeE a ≤ codeE b)) : rs = sortE es := by
  refine List.Perm.eq_of_pairwise (le := fun a b => codeE a ≤ codeE b) (fun a b ha hb h1 h2 => ?_) hs (sortE_sorted es) (hp.trans (sortE_perm es).symm)
  exact codeE_inj (h.2 a (hp.mem_iff.mp ha)) (h.2 b ((sortE_perm es).mem_iff.mp hb)) (by omega)
theorem EsOk.left {es : List Ent} {t : Int} (h : EsOk es) : EsOk (leftL t es) := by
  refine ⟨Nat.lt_of_le_of_lt (List.length_filterMap_le _ _) h.1, fun e he => ?_⟩
  obtain ⟨d, hd, hf⟩ := List.mem_filterMap.mp he
  obtain ⟨⟨b1, b2⟩, ⟨b3, b4⟩, b5, b6⟩ := h.2 d hd
  unfold leftF at hf
  split at hf
  · rename_i hc
    cases hf
    exact ⟨⟨b1, b2⟩, ⟨b3, b4⟩, by show 0 ≤ d.2.2 - 1; omega, by show d.2.2 - 1 < 8; omega⟩
  · cases hf
def entAt (H : Hp) (v : V) : Ent := match rowAt H v with
  | [m, p, s] => (m, p, s)
  | _ => (0, 0, 0)
theorem ents_at {H : Hp} {es : List Ent} {vs : List V} (h : DaL H vs (es.map dE)) : vs.map (entAt H) = es ∧ ∀ v ∈ vs, ∃ a e, v = .ref a ∧ e ∈ es ∧ entAt H v = e ∧ rowAt H v = row3 e ∧ H a = some (.tup ((row3 e).map V.int)) := by
  have h' : DaL H vs ((es.map row3).map dR) := by
    rw [List.map_map]
    exact h
  obtain ⟨k1, k2⟩ := rows_at h'
  have e3 : ∀ e : Ent, (match row3 e with
    | [m, p, s] => ((m, p, s) : Ent)
    | _ => (0, 0, 0)) = e := fun e => rfl
  refine ⟨?_, fun v hv => ?_⟩
  · have : vs.map (entAt H) = (vs.map (rowAt H)).map (fun r => match r with
      | [m, p, s] => ((m, p, s) : Ent)
      | _ => (0, 0, 0)) := by rw [List.map_map]; rfl
    rw [this, k1, List.map_map]
    exact List.map_id' es
  · obtain ⟨a, e, ha⟩ := k2 v hv
    have hr : rowAt H v ∈ es.map row3 := by rw [← k1]; exact List.mem_map_of_mem hv
    obtain ⟨x, hx, hxe⟩ := List.mem_map.mp hr
    refine ⟨a, x, e, hx, ?_, hxe.symm, by rw [hxe]; exact ha⟩
    unfold entAt
    rw [← hxe]
/-- sorted(entries) -/
theorem eld_sorted {σ : L2.St} {H : Hp} {te : TE} {K : PySem.W.Frag} {l : Addr} {xs : List V} {es : List Ent} (h : Ev te σ H (.ref l)) (hl : H l = some (.lst xs)) (hd : DaL H xs (es.map dE)) (ok : EsOk es) :
    EvLD (tCB (rSortU K 3 8) (tCons te tNil)) σ H ((sortE es).map dE) := fun H1 e Q q => h H1 e _ fun H2 e2 => by
  have e12 := e.trans e2
  have hd2 := hd.ex e12
  obtain ⟨k1, k2⟩ := ents_at hd2
  have len : xs.length = es.length := by rw [← k1, List.length_map]
  refine ⟨l, xs, rfl, sq_of (e12 _ _ hl), by rw [len]; exact ok.1, fun x hx => ?_, fun ys p hperm hpw hp => ?_⟩
  · obtain ⟨a, en, rfl, hen, _, _, ha⟩ := k2 x hx
    obtain ⟨b1, b2, b3⟩ := ok.2 en hen
    refine ⟨row3 en, ⟨a, rfl, st_of ha⟩, rfl, fun m hm => ?_⟩
    simp only [List.mem_cons, List.not_mem_nil, or_false] at hm
    rcases hm with rfl | rfl | rfl
    · exact b1
    · exact b2
    · exact b3
  · have hrs : ys.map (entAt H2) = sortE es := by
      refine sortE_uniq ok ?_ ?_
      · rw [← k1]
        exact hperm.map _
      · rw [List.pairwise_map]
        refine hpw.imp_of_mem fun {x y} hx hy hxy => ?_
        obtain ⟨a, ex, rfl, _, h1, _, ha⟩ := k2 x (hperm.mem_iff.mp hx)
        obtain ⟨b, ey, rfl, _, h2, _, hb⟩ := k2 y (hperm.mem_iff.mp hy)
        rw [h1, h2, ← code_row, ← code_row]
        exact hxy _ _ ⟨a, rfl, st_of ha⟩ ⟨b, rfl, st_of hb⟩
    refine q p ys _ (fresh_back e2 hp) (e2.trans (Ex.new hp)) upd_same ?_
    rw [← hrs]
    have hf : ∀ v ∈ ys, ∃ a, v = .ref a ∧ (upd H2 p (.lst ys)) a = some (.tup ((row3 (entAt H2 v)).map V.int)) := fun v hv => by
      obtain ⟨a, ex, e', _, h1, _, ha⟩ := k2 v (hperm.mem_iff.mp hv)
      exact ⟨a, e', by rw [h1]; exact (Ex.new hp) _ _ ha⟩
    have := rows_da (f := fun v => row3 (entAt H2 v)) hf
    rw [List.map_map] at this
    rw [List.map_map]
    exact this

/-! ### what comes first -/
abbrev Pr2 := Int × Int
abbrev dP (ps : List Pr2) : PyData := .tuple (ps.map fun p => dR [p.1, p.2])
def firstS : Nat → List Ent → Option (List Pr2)
  | 0, _ => some []
  | n + 1, es => if (barOf (n + 1) (sortE es)).isSome then none else (sortE es).findSome? fun e => if e.2.2 = 0 then (firstS n (leftL e.1 (sortE es))).map fun ps => (e.1, e.2.1) :: ps else none
theorem bar_0 (es : List Ent) : barOf 0 es = none := by
  unfold barOf setsL subsL
  simp
theorem first_len : ∀ {n : Nat} {es : List Ent} {ps : List Pr2}, firstS n es = some ps → ps.length = n
  | 0, es, ps, h => by
    cases h
    rfl
  | n + 1, es, ps, h => by
    unfold firstS at h
    split at h
    · cases h
    · obtain ⟨e, he, hf⟩ := List.exists_of_findSome?_eq_some h
      split at hf
      · obtain ⟨qs, hq, rfl⟩ := Option.map_eq_some_iff.mp hf
        rw [List.length_cons, first_len hq]
      · cases hf
def FirstAt (H : Hp) (o : Option V) (r : Option (List Pr2)) : Prop := (r = none → o = none) ∧ ∀ ps, r = some ps → ∃ v, o = some v ∧ DaAt H v (dP ps)
section
variable {P : Program} {w : World} {K : PySem.W.Frag} {mg : Str → Option Value} {base : Heap}
/-- a generator def, by its body -/
theorem fun_g1 {x qual : Str} {st : Stmt} {f : Addr} {fd : FuncData} {N ps : List Str} {k : Nat} {sp : Sp1} (F : Fun K x qual st f fd) (S : GScope N ps (defScope st)) (len : ∀ vs H Q, sp vs H Q → vs.length = ps.length)
    (hbody : ∀ (cdv : Value) (A : Around) (outer : List Env) (s : Shared) (H : Hp) (vs : List V) (Q : Option V → Hp → Prop), Room k (A.deeper (envOfC qual (defScope st) s.heap.objs.size f cdv)) → sp vs H Q →
      ∃ t, GFs (fcx P w K mg base N qual (defScope st) f cdv A outer s H) (defBody st) t ∧ t { nx := fun _ H' => Q none H', rt := fun v H' => v = .non ∧ Q none H', yl := fun x H' => Q (some x) H' } (start N vs) H) : GFn1 P w K mg base (k + 1) f fd ps sp := by
  obtain ⟨oc, od, kV, doc, pm, an, cdv, ct, osl, e, lk, hcd⟩ := F.ex
  subst e
  exact gfn1_of lk hcd S len fun A outer s H vs Q hr hsp => hbody cdv A outer s H vs Q hr hsp
/-- seatings(seats, entries), for at most d seats -/
def spGen (PT : Addr) (d : Nat) : Sp1 := fun vs H Q => ∃ (n : Nat) (l : Addr) (xs : List V) (es : List Ent), vs = [.int (n : Int), .ref l] ∧ n ≤ d ∧ n ≤ 4 ∧ H l = some (.lst xs) ∧ DaL H xs (es.map dE) ∧ EsOk es ∧ Tabs (tabQ PT) H ∧
  ∀ (H2 : Hp) (o : Option V), LamX.ExtN H H2 → Tabs (tabQ PT) H2 → FirstAt H2 o (firstS n es) → Q o H2
abbrev nsGen : List Str := ["seats", "entries", "rows", "fewer", "machine", "place", "seat", "left", "seating"]
theorem scGen : GScope nsGen ["seats", "entries"] (defScope (topS 1)) := ⟨by decide +kernel, by decide +kernel, by decide +kernel, by decide +kernel, by decide +kernel, by decide +kernel, by decide +kernel⟩
/-- how an entry goes on -/
def goF (n : Nat) (rs : List Ent) (e : Ent) : Option (List Pr2) := if e.2.2 = 0 then (firstS n (leftL e.1 rs)).map fun ps => (e.1, e.2.1) :: ps else none
theorem first_go {n : Nat} {es : List Ent} (h : barOf (n + 1) (sortE es) = none) : firstS (n + 1) es = (sortE es).findSome? (goF n (sortE es)) := by
  rw [firstS, h]
  rfl
/-- the body ahead of its loop -/
theorem gen_head {PT : Addr} {n : Nat} {l : Addr} {xs : List V} {es : List Ent} {H : Hp} {Q : Option V → Hp → Prop} {REST : TF} (hn : n ≤ 4) (hl : H l = some (.lst xs)) (hd : DaL H xs (es.map dE)) (ok : EsOk es) (hT : Tabs (tabQ PT) H)
    (q : ∀ (H2 : Hp) (o : Option V), LamX.ExtN H H2 → Tabs (tabQ PT) H2 → FirstAt H2 o (firstS n es) → Q o H2)
    (hrest : ∀ (m : Nat) (r : Addr) (ys : List V) (H' : Hp), n = m + 1 → barOf (m + 1) (sortE es) = none → LamX.ExtN H H' → Tabs (tabQ PT) H' → H' r = some (.lst ys) → DaL H' ys ((sortE es).map dE) →
      REST { nx := fun _ H' => Q none H', rt := fun v H' => v = .non ∧ Q none H', yl := fun x H' => Q (some x) H' } [some (.int (n : Int)), some (.ref l), some (.ref r), none, none, none, none, none, none] H') :
    tFSeq (tFP (tAsg (tCB (rSortU K 3 8) (tCons (tVar 1) tNil)) (gName 2)))
      (tFSeq (tFIf (tTest (tOp (fun x y H Q => y = .non ∧ Q (.bl (!decide (x = .non))) H) (tCallS (spBar PT) (fun _ => E0) (tCons (tVar 0) (tCons (tVar 2) tNil))) (tC .non))) (tFP tRetN) tF0)
      (tFSeq (tFIf (tTest (tOp rEq (tVar 0) (tC (.int 0)))) (tFSeq (tFYield (tTup tNil)) tF0) tF0) REST))
      { nx := fun _ H' => Q none H', rt := fun v H' => v = .non ∧ Q none H', yl := fun x H' => Q (some x) H' } (start nsGen [.int (n : Int), .ref l]) H := by
  refine s_asgLD (σ := [some (.int (n : Int)), some (.ref l), none, none, none, none, none, none, none]) (eld_sorted (ev_var (i := 1) rfl) hl hd ok) (fun r H1 ys hp e1 h1 d1 => ?_)
  refine ⟨.int (n : Int), rfl, .ref r, rfl, n, r, ys, sortE es, rfl, hn, h1, d1, by have := ok.sort.1; omega, hT.ext e1, fun H2 v eN T2 hno hyes => ⟨rfl, _, rfl, ?_⟩⟩
  have e02 := (ExtN.of e1).trans eN
  cases hb : barOf n (sortE es) with
  | some b =>
    have hv : v ≠ .non := by
      obtain ⟨a, rfl, _⟩ := da_row (hyes b hb)
      exact fun z => by cases z
    rw [decide_eq_false hv]
    refine ⟨rfl, q H2 none e02 T2 ⟨fun _ => rfl, fun ps hps => ?_⟩⟩
    cases n with
    | zero =>
      rw [bar_0] at hb
      cases hb
    | succ m =>
      unfold firstS at hps
      rw [hb] at hps
      cases hps
  | none =>
    have hv : v = .non := hno hb
    subst hv
    show tTest (tOp rEq (tVar 0) (tC (.int 0))) [some (.int (n : Int)), some (.ref l), some (.ref r), none, none, none, none, none, none] H2 _
    have hr2 : H2 r = some (.lst ys) := eN r _ h1 (fun ps z => by cases z)
    have dr2 : DaL H2 ys ((sortE es).map dE) := d1.keep fun a zs ha => eN a _ ha (fun ps z => by cases z)
    refine (et_test (te := tOp rEq (tVar 0) (tC (.int 0))) (ev_op (ev_var (i := 0) rfl) ev_c (rv_eq rfl))) H2 (Ex.refl H2) _ fun H3 e3 => ?_
    cases n with
    | zero =>
      refine (etu_nil (σ := [some (.int ((0 : Nat) : Int)), some (.ref l), some (.ref r), none, none, none, none, none, none])) H3 (Ex.refl H3) _ fun a zs H4 e4 h4 d4 => ?_
      refine q H4 (some (.ref a)) ((e02.trans (ExtN.of e3)).trans (ExtN.of e4)) ((T2.ext e3).ext e4) ⟨fun z => (by cases z), fun ps hps => ⟨_, rfl, ?_⟩⟩
      cases hps
      exact da_tup h4 d4
    | succ m =>
      have : decide (V.int ((m + 1 : Nat) : Int) = V.int 0) = false := decide_eq_false fun z => by
        have := V.int.inj z
        omega
      rw [this]
      exact hrest m r ys H3 rfl hb (e02.trans (ExtN.of e3)) (T2.ext e3) (e3 _ _ hr2) (dr2.ex e3)
theorem gen_step {f PT : Addr} {fd : FuncData} {d : Nat} (F : Fun K "seatings" "seatings" (topS 1) f fd) (hm : mg "seatings" = some (.ref f)) (kp : PySem.W.keepIn K (.ref f) = true) (bi : Binds K fd ["seats", "entries"] [])
    (GB : CalX P w K mg base CX0 5 "least_bar" (spBar PT)) (GL : CalX P w K mg base CX0 1 "left_for_others" spLeft) (T : SeaT K mg) (ih : d = 0 ∨ GFn1 P w K mg base (2 * d + 5) f fd ["seats", "entries"] (spGen PT (d - 1))) :
    GFn1 P w K mg base (2 * d + 7) f fd ["seats", "entries"] (spGen PT d) := by
  refine fun_g1 (k := 2 * d + 6) F scGen (fun vs H Q h => ?_) (fun cdv A outer s H vs Q hr h => ?_)
  · obtain ⟨n, l, xs, es, rfl, _⟩ := h
    rfl
  · obtain ⟨n, l, xs, es, rfl, hnd, hn, hl, hd, ok, hT, q⟩ := h
    have own := @owns_gcx P w K mg base nsGen "seatings" (defScope (topS 1)) f cdv A outer s H (fun _ _ _ => False) []
    rcases ih with hd0 | ih
    · subst hd0
      obtain rfl : n = 0 := by omega
      refine ⟨_, gfs_cons (gf_ps (ps_set (i := 2) scGen.nd rfl (Or.inl rfl) (pe_callB (cr_sortT (d := 3) (B := 8) (by decide)) (by rfl) T.sorted boot_sorted (pa_cons (pv 1) pa_nil))))
        (gfs_cons (gf_if (pt_cmpR op_notN (pe_cx (E := fun _ => E0) GB hr (by omega) (by rfl) at0 (pa_cons (pv 0) (pa_cons (pv 2) pa_nil))) pe_non (nomark _)) (gfs_pss (pss_one ps_retN)) gfs_nil)
        (gfs_cons (gf_if (pt_cmpR op_eq (pv 0) pe_int (nomark _)) (gfs_one (gf_yield (pe_tup pa_nil))) gfs_nil) gfs_never)), ?_⟩
      exact gen_head hn hl hd ok hT q fun m r ys H' hm _ _ _ _ _ => by omega
    · refine ⟨_, gfs_cons (gf_ps (ps_set (i := 2) scGen.nd rfl (Or.inl rfl) (pe_callB (cr_sortT (d := 3) (B := 8) (by decide)) (by rfl) T.sorted boot_sorted (pa_cons (pv 1) pa_nil))))
        (gfs_cons (gf_if (pt_cmpR op_notN (pe_cx (E := fun _ => E0) GB hr (by omega) (by rfl) at0 (pa_cons (pv 0) (pa_cons (pv 2) pa_nil))) pe_non (nomark _)) (gfs_pss (pss_one ps_retN)) gfs_nil)
        (gfs_cons (gf_if (pt_cmpR op_eq (pv 0) pe_int (nomark _)) (gfs_one (gf_yield (pe_tup pa_nil))) gfs_nil)
        (gfs_cons (gf_ps (ps_set (i := 3) scGen.nd rfl (Or.inl rfl) (pe_op op_sub (pv 0) pe_int)))
        (gfs_one (gf_for own rfl (pi_list (pv 2)) (pg_tup rfl (pgs_cons (pg_name (i := 4) scGen.nd rfl (.inl rfl)) (pgs_cons (pg_name (i := 5) scGen.nd rfl (.inl rfl)) (pgs_cons (pg_name (i := 6) scGen.nd rfl (.inl rfl)) pgs_nil))))
          (gfs_one (gf_if (pt_cmpR op_eq (pv 6) pe_int (nomark _)) (gfs_cons (gf_ps (ps_set (i := 7) scGen.nd rfl (Or.inl rfl) (pe_cx (E := fun _ => E0) GL hr (by omega) (by rfl) at0 (pa_cons (pv 4) (pa_cons (pv 2) pa_nil)))))
            (gfs_one (gf_forG own rfl (pgen1_call (dvs := []) ih (hr.mono (by omega)) (by rfl) hm kp bi .nil (pa_cons (pv 3) (pa_cons (pv 7) pa_nil))) (hr.mono (by omega)) (pg_name (i := 8) scGen.nd rfl (.inl rfl))
              (gfs_one (gf_yield (pe_op op_catA (pe_tup (pa_cons (pe_tup (pa_cons (pv 4) (pa_cons (pv 5) pa_nil))) pa_nil)) (pv 8))))))) gfs_nil))))))), ?_⟩
      refine gen_head hn hl hd ok hT q fun m r ys H' hm hb e0 T0 hr0 d0 => ?_
      subst hm
      refine s_asg (σ := [some (.int ((m + 1 : Nat) : Int)), some (.ref l), some (.ref r), none, none, none, none, none, none]) (ev_op (ev_var (i := 0) rfl) ev_c rv_I0) (fun H1 e1 => ?_)
      refine ⟨.ref r, rfl, r, rfl, ⟨ys, sq_of (e1 _ _ hr0)⟩, ?_⟩
      refine gwalk_list (K := K) (xs := ys) (fun i σ' H' => ∃ v4 v5 v6 v7 v8 : Option V, σ' = [some (.int ((m + 1 : Nat) : Int)), some (.ref l), some (.ref r), some (.int (((m + 1 : Nat) : Int) - 1)), v4, v5, v6, v7, v8] ∧ LamX.ExtN H H' ∧ Tabs (tabQ PT) H' ∧ H' r = some (.lst ys) ∧ DaL H' ys ((sortE es).map dE) ∧
          firstS (m + 1) es = ((sortE es).drop i).findSome? (goF m (sortE es)))
        ⟨none, none, none, none, none, rfl, e0.trans (ExtN.of e1), T0.ext e1, e1 _ _ hr0, d0.ex e1, by rw [List.drop_zero]; exact first_go hb⟩
        (fun i σ' H' ⟨_, _, _, _, _, _, _, _, k, _⟩ => sq_of k) (fun i x σ' H' hx ⟨v4, v5, v6, v7, v8, hσ, e', T', hr', d', hf⟩ => ?_) (fun σ' H' ⟨v4, v5, v6, v7, v8, hσ, e', T', hr', d', hf⟩ => ?_)
      · subst hσ
        obtain ⟨d0', hd1, hx1⟩ := d'.got hx
        rw [List.getElem?_map] at hd1
        obtain ⟨e, he, rfl⟩ := Option.map_eq_some_iff.mp hd1
        have hlt : i < (sortE es).length := (List.getElem?_eq_some_iff.mp he).1
        have hge : (sortE es)[i] = e := (List.getElem?_eq_some_iff.mp he).2
        have hdrop : (sortE es).drop i = e :: (sortE es).drop (i + 1) := by rw [List.drop_eq_getElem_cons hlt, hge]
        rw [hdrop, List.findSome?_cons] at hf
        refine g_ent (σ := [some (.int ((m + 1 : Nat) : Int)), some (.ref l), some (.ref r), some (.int (((m + 1 : Nat) : Int) - 1)), v4, v5, v6, v7, v8]) hx1 ?_
        refine (et_test (te := tOp rEq (tVar 6) (tC (.int 0))) (σ := [some (.int ((m + 1 : Nat) : Int)), some (.ref l), some (.ref r), some (.int (((m + 1 : Nat) : Int) - 1)), some (.int e.1), some (.int e.2.1), some (.int e.2.2), v7, v8]) (ev_op (ev_var (i := 6) rfl) ev_c (rv_eq rfl))) H' (Ex.refl H') _ fun H3 e3 => ?_
        by_cases hs : e.2.2 = 0
        · rw [show decide (V.int e.2.2 = V.int 0) = true by rw [hs]; decide, if_pos rfl]
          have hgo : goF m (sortE es) e = (firstS m (leftL e.1 (sortE es))).map fun ps => (e.1, e.2.1) :: ps := by
            unfold goF
            rw [if_pos hs]
          have e3' := e'.trans (ExtN.of e3)
          refine ⟨.int e.1, rfl, .ref r, rfl, e.1, r, ys, sortE es, rfl, e3 _ _ hr', d'.ex e3, by have := ok.sort.1; omega, fun p H4 zs hp e4 h4 d4 => ?_⟩
          have e4' := e3'.trans (ExtN.of e4)
          refine ⟨.int (((m + 1 : Nat) : Int) - 1), rfl, .ref p, rfl, m, p, zs, leftL e.1 (sortE es), ?_, by omega, by omega, h4, d4, ok.sort.left, (T'.ext e3).ext e4, fun H5 o eN T5 fa => ?_⟩
          · show [V.int (((m + 1 : Nat) : Int) - 1), V.ref p] = [V.int (m : Int), V.ref p]
            rw [show (((m + 1 : Nat) : Int) - 1) = (m : Int) by omega]
          have e5' := e4'.trans eN
          have hr5 : H5 r = some (.lst ys) := eN r _ (e4 _ _ (e3 _ _ hr')) (fun ps z => by cases z)
          have dr5 : DaL H5 ys ((sortE es).map dE) := (d'.ex (e3.trans e4)).keep fun a zs ha => eN a _ ha (fun ps z => by cases z)
          cases hfi : firstS m (leftL e.1 (sortE es)) with
          | none =>
            rw [fa.1 hfi]
            rw [hgo, hfi] at hf
            exact ⟨_, _, _, _, _, rfl, e5', T5, hr5, dr5, hf⟩
          | some ps =>
            obtain ⟨v, ho, hv⟩ := fa.2 ps hfi
            rw [ho]
            rw [hgo, hfi] at hf
            have hpl := first_len hfi
            refine (etu_cat (K := K) (σ := [some (.int ((m + 1 : Nat) : Int)), some (.ref l), some (.ref r), some (.int (((m + 1 : Nat) : Int) - 1)), some (.int e.1), some (.int e.2.1), some (.int e.2.2), some (.ref p), some v]) (etu_1 (es_tu (etu_2 (es_int (ev_var (i := 4) rfl)) (es_int (ev_var (i := 5) rfl))))) (etu_da (ev_var (i := 8) rfl) hv) (by rw [List.length_map, hpl]; show 1 + m ≤ 1000; omega)) H5 (Ex.refl H5) _ fun a zs H6 e6 h6 d6 => ?_
            exact q H6 (some (.ref a)) (e5'.trans (ExtN.of e6)) (T5.ext e6) ⟨fun z => (by rw [hf] at z; cases z), fun ps' z => ⟨_, rfl, by
              rw [hf] at z
              cases z
              exact da_tup h6 d6⟩⟩
        · rw [show decide (V.int e.2.2 = V.int 0) = false from decide_eq_false fun z => hs (V.int.inj z), if_neg Bool.false_ne_true]
          have hgo : goF m (sortE es) e = none := by
            unfold goF
            rw [if_neg hs]
          rw [hgo] at hf
          exact ⟨_, _, _, _, _, rfl, e'.trans (ExtN.of e3), T'.ext e3, e3 _ _ hr', d'.ex e3, hf⟩
      · subst hσ
        have hlen : ys.length = (sortE es).length := by rw [d'.length, List.length_map]
        rw [hlen, List.drop_length] at hf
        exact q H' none e' T' ⟨fun _ => rfl, fun ps hps => by rw [hf] at hps; cases hps⟩
theorem gen_all {f PT : Addr} {fd : FuncData} (F : Fun K "seatings" "seatings" (topS 1) f fd) (hm : mg "seatings" = some (.ref f)) (kp : PySem.W.keepIn K (.ref f) = true) (bi : Binds K fd ["seats", "entries"] [])
    (GB : CalX P w K mg base CX0 5 "least_bar" (spBar PT)) (GL : CalX P w K mg base CX0 1 "left_for_others" spLeft) (T : SeaT K mg) : ∀ d : Nat, GFn1 P w K mg base (2 * d + 7) f fd ["seats", "entries"] (spGen PT d)
  | 0 => gen_step (d := 0) F hm kp bi GB GL T (.inl rfl)
  | d + 1 => gen_step (d := d + 1) F hm kp bi GB GL T (.inr (by
    have ih := gen_all F hm kp bi GB GL T d
    have e : 2 * (d + 1) + 5 = 2 * d + 7 := by omega
    rw [e]
    exact ih))
/-- first_seating(seats, entries) -/
def spFirst (PT : Addr) : Sp := fun vs H Q _ => ∃ (n : Nat) (l : Addr) (xs : List V) (es : List Ent), vs = [.int (n : Int), .ref l] ∧ n ≤ 4 ∧ H l = some (.lst xs) ∧ DaL H xs (es.map dE) ∧ EsOk es ∧ Tabs (tabQ PT) H ∧
  ∀ (H2 : Hp) (v : V), LamX.ExtN H H2 → Tabs (tabQ PT) H2 → (firstS n es = none → v = .non) → (∀ ps, firstS n es = some ps → DaAt H2 v (dP ps)) → Q v H2
abbrev nsFirst : List Str := ["seats", "entries", "seating"]
end
end Fs

set_option Elab.async false
set_option linter.all false
set_option maxRecDepth 100000
set_option maxHeartbeats 4000000
/-! seatings: seat by seat, and all of them at once -/
namespace Fs
open FsD
/-- all seatings of entries in order, seat by seat -/
def allS : Nat → List Ent → List (List Pr2)
  | 0, _ => [[]]
  | n + 1, rs => rs.flatMap fun e => if e.2.2 = 0 then (allS n (leftL e.1 rs)).map fun ps => (e.1, e.2.1) :: ps else []
abbrev Asc (rs : List Ent) : Prop := rs.Pairwise fun a b => codeE a ≤ codeE b
theorem sortE_asc {rs : List Ent} (h : EsOk rs) (hs : Asc rs) : sortE rs = rs := (sortE_uniq h (List.Perm.refl rs) hs).symm
theorem left_asc {t : Int} {rs : List Ent} (h : Asc rs) : Asc (leftL t rs) := by
  unfold leftL Asc
  refine List.Pairwise.filterMap (leftF t) (fun a b hab x hx y hy => ?_) h
  unfold leftF at hx hy
  split at hx
  · split at hy
    · cases hx
      cases hy
      simp only [codeE] at hab ⊢
      omega
    · cases hy
  · cases hx
theorem left_mem {t : Int} {rs : List Ent} {m p s : Int} : (m, p, s) ∈ leftL t rs ↔ (m, p, s + 1) ∈ rs ∧ 0 ≤ s ∧ m ≠ t := by
  unfold leftL
  rw [List.mem_filterMap]
  constructor
  · rintro ⟨⟨m', p', s'⟩, he, hf⟩
    unfold leftF at hf
    split at hf
    · rename_i hc
      have e := Option.some.inj hf
      simp only [Prod.mk.injEq] at e
      obtain ⟨e1, e2, e3⟩ := e
      simp only at hc
      subst e1 e2
      refine ⟨?_, by omega, hc.2⟩
      rw [show s + 1 = s' by omega]
      exact he
    · cases hf
  · rintro ⟨he, h0, ht⟩
    refine ⟨(m, p, s + 1), he, ?_⟩
    unfold leftF
    rw [if_pos ⟨by show 0 < s + 1; omega, ht⟩]
    simp
/-- a seating: at each seat an entry, all machines unlike -/
theorem mem_allS : ∀ {n : Nat} {rs : List Ent} {ps : List Pr2}, ps ∈ allS n rs → ps.length = n ∧ (∀ (j : Nat) (q : Pr2), ps[j]? = some q → (q.1, q.2, (j : Int)) ∈ rs) ∧ (ps.map (·.1)).Nodup
  | 0, rs, ps, h => by
    rw [List.mem_singleton.mp h]
    exact ⟨rfl, fun j q hq => by simp at hq, List.nodup_nil⟩
  | n + 1, rs, ps, h => by
    unfold allS at h
    obtain ⟨⟨m, p, s⟩, he, hps⟩ := List.mem_flatMap.mp h
    simp only at hps
    split at hps
    · rename_i hs
      obtain ⟨qs, hqs, rfl⟩ := List.mem_map.mp hps
      obtain ⟨h1, h2, h3⟩ := mem_allS hqs
      subst hs
      refine ⟨by rw [List.length_cons, h1], fun j q hq => ?_, ?_⟩
      · cases j with
        | zero =>
          rw [List.getElem?_cons_zero] at hq
          cases hq
          exact he
        | succ j =>
          rw [List.getElem?_cons_succ] at hq
          have := (left_mem.mp (h2 j q hq)).1
          rw [show ((j + 1 : Nat) : Int) = (j : Int) + 1 by omega]
          exact this
      · rw [List.map_cons, List.nodup_cons]
        refine ⟨fun hm => ?_, h3⟩
        obtain ⟨q, hq, e⟩ := List.mem_map.mp hm
        obtain ⟨j, hj⟩ := List.getElem?_of_mem hq
        exact (left_mem.mp (h2 j q hj)).2.2 e
    · simp at hps
theorem subs_ok : ∀ {n : Nat} {r : List Int}, r ∈ subsL n → r.Nodup ∧ ∀ s ∈ r, 0 ≤ s ∧ s < (n : Int)
  | 0, r, h => by
    rw [List.mem_singleton.mp h]
    exact ⟨List.nodup_nil, fun s hs => by simp at hs⟩
  | n + 1, r, h => by
    unfold subsL at h
    rcases List.mem_append.mp h with h | h
    · obtain ⟨h1, h2⟩ := subs_ok h
      exact ⟨h1, fun s hs => by have := h2 s hs; omega⟩
    · obtain ⟨q, hq, rfl⟩ := List.mem_map.mp h
      obtain ⟨h1, h2⟩ := subs_ok hq
      refine ⟨?_, fun s hs => ?_⟩
      · rw [List.nodup_append]
        refine ⟨h1, by simp, fun a ha b hb => ?_⟩
        rw [List.mem_singleton.mp hb]
        have := h2 a ha
        omega
      · rcases List.mem_append.mp hs with hs | hs
        · have := h2 s hs
          omega
        · rw [List.mem_singleton.mp hs]
          omega
theorem sets_ok {n : Nat} {r : List Int} (h : r ∈ setsL n) : r.Nodup ∧ ∀ s ∈ r, 0 ≤ s ∧ s < (n : Int) := by
  unfold setsL at h
  have h' := (List.mergeSort_perm _ _).mem_iff.mp h
  exact subs_ok (List.mem_of_mem_drop h')
/-- unlike numbers that all stand in ns are no more than those -/
theorem le_cnt {ks ns : List Int} (hk : ks.Nodup) (h : ∀ k ∈ ks, k ∈ ns) : ks.length ≤ FsD.cnt ns := FsG.sub_le hk fun k hm => mem_dd.mpr (h k hm)
/-- where a seating is, no bar is -/
theorem no_bar {n : Nat} {rs : List Ent} {ps : List Pr2} (h : ps ∈ allS n rs) : barOf n rs = none := by
  obtain ⟨hl, hm, hnd⟩ := mem_allS h
  unfold barOf
  rw [List.find?_eq_none]
  intro r hr
  obtain ⟨r1, r2⟩ := sets_ok hr
  unfold isBar
  rw [decide_eq_true_eq, Nat.not_lt]
  -- the machines at these seats
  have hget : ∀ s ∈ r, ∃ q, ps[s.toNat]? = some q := fun s hs => by
    have := r2 s hs
    exact ⟨_, List.getElem?_eq_getElem (by omega)⟩
  have hlen : (r.map fun s => (ps.map (·.1)).getD s.toNat 0).length = r.length := List.length_map ..
  rw [← hlen]
  unfold mach
  refine le_cnt ?_ fun k hk => ?_
  · refine List.pairwise_map.mpr (r1.imp_of_mem fun {a b} ha hb hab he => hab ?_)
    have a1 := r2 a ha
    have b1 := r2 b hb
    have ea : a.toNat < (ps.map (·.1)).length := by rw [List.length_map]; omega
    have eb : b.toNat < (ps.map (·.1)).length := by rw [List.length_map]; omega
    rw [List.getD_eq_getElem?_getD, List.getD_eq_getElem?_getD, List.getElem?_eq_getElem ea, List.getElem?_eq_getElem eb] at he
    simp only [Option.getD_some] at he
    have apart := List.pairwise_iff_getElem.mp hnd
    rcases Nat.lt_trichotomy a.toNat b.toNat with z | z | z
    · exact absurd he (apart _ _ ea eb z)
    · omega
    · exact absurd he.symm (apart _ _ eb ea z)
  · obtain ⟨s, hs, rfl⟩ := List.mem_map.mp hk
    obtain ⟨q, hq⟩ := hget s hs
    have h1 := hm _ q hq
    have := r2 s hs
    rw [show ((s.toNat : Nat) : Int) = s by omega] at h1
    have e : (ps.map (·.1)).getD s.toNat 0 = q.1 := by
      rw [List.getD_eq_getElem?_getD, List.getElem?_map, hq]
      rfl
    rw [e]
    exact List.mem_map.mpr ⟨(q.1, q.2, s), List.mem_filter.mpr ⟨h1, by simpa using hs⟩, rfl⟩
theorem head_flat {α β : Type} {f : α → List β} : ∀ xs : List α, (xs.flatMap f).head? = xs.findSome? fun x => (f x).head?
  | [] => rfl
  | x :: xs => by
    rw [List.flatMap_cons, List.findSome?_cons, ← head_flat xs]
    cases f x with
    | nil => rfl
    | cons y ys => rfl
theorem find_congr {α β : Type} {f g : α → Option β} : ∀ {xs : List α}, (∀ x ∈ xs, f x = g x) → xs.findSome? f = xs.findSome? g
  | [], _ => rfl
  | x :: xs, h => by
    rw [List.findSome?_cons, List.findSome?_cons, h x (List.mem_cons_self ..), find_congr fun y hy => h y (List.mem_cons_of_mem _ hy)]
/-- the first one of the program is the first one of all -/
theorem first_all : ∀ {n : Nat} {es : List Ent}, EsOk es → firstS n es = (allS n (sortE es)).head?
  | 0, es, _ => rfl
  | n + 1, es, ok => by
    have go : (allS (n + 1) (sortE es)).head? = (sortE es).findSome? (goF n (sortE es)) := by
      rw [allS, head_flat]
      refine find_congr fun e he => ?_
      unfold goF
      split
      · have ok2 := (ok.sort).left (t := e.1)
        rw [first_all ok2, sortE_asc ok2 (left_asc (sortE_sorted es)), List.head?_map]
      · rfl
    cases hb : barOf (n + 1) (sortE es) with
    | none => rw [first_go hb, go]
    | some b =>
      rw [firstS, hb]
      show none = _
      cases hA : allS (n + 1) (sortE es) with
      | nil => rfl
      | cons ps rest =>
        have := no_bar (n := n + 1) (rs := sortE es) (ps := ps) (by rw [hA]; exact List.mem_cons_self ..)
        rw [this] at hb
        cases hb
end Fs

set_option Elab.async false
set_option linter.all false
set_option maxRecDepth 100000
set_option maxHeartbeats 4000000
/-! all seatings as the law finds them; their order -/
namespace Fs
open FsD PySem
abbrev prE (e : Ent) : Pr2 := (e.1, e.2.1)
/-- the pairs at seat k, in order -/
def pairsAt (rs : List Ent) (k : Nat) : List Pr2 := (rs.filter fun e => decide (e.2.2 = (k : Int))).map prE
def newP (c : List Pr2) (p : Pr2) : Bool := !decide (p.1 ∈ c.map (·.1))
/-- each row of pairs with each pair of an unused machine behind it -/
def longer (F : List (List Pr2)) (P : List Pr2) : List (List Pr2) := F.flatMap fun c => (P.filter (newP c)).map fun p => c ++ [p]
def bfs (rs : List Ent) : Nat → List (List Pr2)
  | 0 => [[]]
  | k + 1 => longer (bfs rs k) (pairsAt rs k)
def extS (rs : List Ent) : Nat → Nat → List Int → List (List Pr2)
  | 0, _, _ => [[]]
  | n + 1, k, used => ((pairsAt rs k).filter fun p => !decide (p.1 ∈ used)).flatMap fun p => (extS rs n (k + 1) (used ++ [p.1])).map fun ps => p :: ps
def runB (rs : List Ent) : Nat → Nat → List (List Pr2) → List (List Pr2)
  | 0, _, F => F
  | n + 1, k, F => runB rs n (k + 1) (longer F (pairsAt rs k))
theorem run_bfs (rs : List Ent) : ∀ (m k : Nat), runB rs m k (bfs rs k) = bfs rs (k + m)
  | 0, k => rfl
  | m + 1, k => by
    show runB rs m (k + 1) (bfs rs (k + 1)) = _
    rw [run_bfs rs m (k + 1)]
    congr 1
    omega
theorem run_ext (rs : List Ent) : ∀ (n k : Nat) (F : List (List Pr2)), runB rs n k F = F.flatMap fun c => (extS rs n k (c.map (·.1))).map fun ps => c ++ ps
  | 0, k, F => by
    unfold runB extS
    induction F with
    | nil => rfl
    | cons c F ih => rw [List.flatMap_cons, ← ih]; simp
  | n + 1, k, F => by
    unfold runB
    rw [run_ext rs n (k + 1)]
    unfold longer
    rw [List.flatMap_assoc]
    congr 1
    funext c
    rw [List.flatMap_map, extS, List.map_flatMap]
    congr 1
    funext p
    rw [List.map_map, List.map_append]
    congr 1
    funext ps
    simp
/-- behind k seats, with these machines used -/
def shiftF (k : Nat) (used : List Int) (e : Ent) : Option Ent := if (k : Int) ≤ e.2.2 ∧ e.1 ∉ used then some (e.1, e.2.1, e.2.2 - (k : Int)) else none
theorem left_shift (rs : List Ent) (k : Nat) (used : List Int) (m : Int) : leftL m (rs.filterMap (shiftF k used)) = rs.filterMap (shiftF (k + 1) (used ++ [m])) := by
  unfold leftL
  rw [List.filterMap_filterMap]
  congr 1
  funext e
  unfold shiftF leftF
  by_cases h1 : (k : Int) ≤ e.2.2 ∧ e.1 ∉ used
  · rw [if_pos h1]
    show (if 0 < e.2.2 - (k : Int) ∧ e.1 ≠ m then _ else _) = _
    by_cases h2 : 0 < e.2.2 - (k : Int) ∧ e.1 ≠ m
    · rw [if_pos h2, if_pos ⟨by omega, by simp [h1.2, h2.2]⟩]
      simp only [Option.some.injEq, Prod.mk.injEq, true_and]
      omega
    · rw [if_neg h2, if_neg]
      rintro ⟨a, b⟩
      simp only [List.mem_append, List.mem_singleton, not_or] at b
      exact h2 ⟨by omega, b.2⟩
  · rw [if_neg h1, if_neg]
    · rfl
    · rintro ⟨a, b⟩
      simp only [List.mem_append, List.mem_singleton, not_or] at b
      exact h1 ⟨by omega, b.1⟩
theorem flat_shift {k : Nat} {used : List Int} {G : Ent → List (List Pr2)} {G' : Pr2 → List (List Pr2)} (h0 : ∀ e : Ent, e.2.2 ≠ 0 → G e = []) (h1 : ∀ e : Ent, G (e.1, e.2.1, 0) = G' (prE e)) : ∀ xs : List Ent,
    (xs.filterMap (shiftF k used)).flatMap G = (((xs.filter fun e => decide (e.2.2 = (k : Int))).map prE).filter fun p => !decide (p.1 ∈ used)).flatMap G'
  | [] => rfl
  | e :: xs => by
    have ih := flat_shift (k := k) (used := used) h0 h1 xs
    rw [List.filterMap_cons, List.filter_cons]
    by_cases hk : e.2.2 = (k : Int)
    · by_cases hu : e.1 ∈ used
      · rw [show shiftF k used e = none by unfold shiftF; rw [if_neg fun z => z.2 hu]]
        simp only [hk, decide_true, if_true, List.map_cons]
        rw [List.filter_cons_of_neg (by simp [hu])]
        exact ih
      · rw [show shiftF k used e = some (e.1, e.2.1, 0) by unfold shiftF; rw [if_pos ⟨by omega, hu⟩, hk]; simp]
        simp only [hk, decide_true, if_true, List.map_cons]
        rw [List.filter_cons_of_pos (by simp [hu]), List.flatMap_cons, List.flatMap_cons, ih, h1 e]
    · simp only [hk, decide_false, Bool.false_eq_true, if_false]
      cases hs : shiftF k used e with
      | none => exact ih
      | some e' =>
        have : e'.2.2 ≠ 0 := by
          unfold shiftF at hs
          split at hs
          · cases hs
            show e.2.2 - (k : Int) ≠ 0
            omega
          · cases hs
        show (e' :: xs.filterMap (shiftF k used)).flatMap G = _
        rw [List.flatMap_cons, h0 e' this, List.nil_append]
        exact ih
theorem all_ext (rs : List Ent) : ∀ (n k : Nat) (used : List Int), allS n (rs.filterMap (shiftF k used)) = extS rs n k used
  | 0, k, used => rfl
  | n + 1, k, used => by
    unfold allS extS pairsAt
    refine flat_shift (fun e he => if_neg he) (fun e => ?_) rs
    show (if (0 : Int) = 0 then _ else _) = _
    rw [if_pos rfl]
    show (allS n (leftL e.1 _)).map _ = _
    rw [left_shift, all_ext rs n (k + 1)]
theorem shift_0 : ∀ {rs : List Ent}, (∀ e ∈ rs, 0 ≤ e.2.2) → rs.filterMap (shiftF 0 []) = rs
  | [], _ => rfl
  | e :: rs, h => by
    have h0 := h e (List.mem_cons_self ..)
    rw [List.filterMap_cons, show shiftF 0 [] e = some e by
      unfold shiftF
      rw [if_pos ⟨by show (0 : Int) ≤ e.2.2; exact h0, by simp⟩]
      simp]
    show e :: _ = _
    rw [shift_0 fun x hx => h x (List.mem_cons_of_mem _ hx)]
/-- the law's way and the program's -/
theorem bfs_all {rs : List Ent} (h : ∀ e ∈ rs, 0 ≤ e.2.2) (n : Nat) : bfs rs n = allS n rs := by
  have h1 := run_bfs rs n 0
  rw [Nat.zero_add] at h1
  rw [← h1, run_ext]
  show ([[]] : List (List Pr2)).flatMap _ = _
  rw [List.flatMap_singleton]
  show (extS rs n 0 []).map _ = _
  rw [← all_ext rs n 0 [], shift_0 h]
  simp

/-! ### order -/
def codeP (p : Pr2) : Int := p.1 * 8 + p.2
theorem toks_dp (x : Pr2) (ps : List Pr2) : W.keyToks (dP (x :: ps)) = .inl 1 :: .inl 1 :: .inl x.1 :: .inl 1 :: .inl x.2 :: .inl 0 :: W.keyToks (dP ps) := by
  simp [dP, dR, W.keyToks, W.keyToksAll]
theorem lt_same (x : Pr2) (ps qs : List Pr2) : W.dataLt (dP (x :: ps)) (dP (x :: qs)) = W.dataLt (dP ps) (dP qs) := by
  unfold W.dataLt
  rw [toks_dp, toks_dp]
  rw [PyProof.Rows.lex_self, PyProof.Rows.lex_self, PyProof.Rows.lex_self, PyProof.Rows.lex_self, PyProof.Rows.lex_self, PyProof.Rows.lex_self]
theorem lt_less {x y : Pr2} (h : x.1 < y.1 ∨ (x.1 = y.1 ∧ x.2 < y.2)) (ps qs : List Pr2) : W.dataLt (dP (y :: qs)) (dP (x :: ps)) = false := by
  unfold W.dataLt
  rw [toks_dp, toks_dp, PyProof.Rows.lex_self, PyProof.Rows.lex_self]
  rcases h with h | ⟨h1, h2⟩
  · rw [PyProof.Rows.lex_false]
    exact ⟨decide_eq_false (by omega), .inl (decide_eq_true h)⟩
  · rw [h1, PyProof.Rows.lex_self, PyProof.Rows.lex_self, PyProof.Rows.lex_false]
    exact ⟨decide_eq_false (by omega), .inl (decide_eq_true h2)⟩
theorem left_nodup {t : Int} {rs : List Ent} (h : rs.Nodup) : (leftL t rs).Nodup := by
  unfold leftL
  refine List.Pairwise.filterMap (leftF t) (fun a b hab x hx y hy e => hab ?_) h
  unfold leftF at hx hy
  split at hx
  · split at hy
    · cases hx
      cases hy
      obtain ⟨m, p, s⟩ := a
      obtain ⟨m', p', s'⟩ := b
      simp only [Prod.mk.injEq] at e ⊢
      omega
    · cases hy
  · cases hx
theorem asc_all : ∀ {n : Nat} {rs : List Ent}, EsOk rs → Asc rs → rs.Nodup → (allS n rs).Pairwise fun a b => W.dataLt (dP b) (dP a) = false
  | 0, rs, _, _, _ => List.pairwise_singleton _ _
  | n + 1, rs, ok, ha, hn => by
    unfold allS
    rw [List.pairwise_flatMap]
    refine ⟨fun e he => ?_, ?_⟩
    · split
      · rw [List.pairwise_map]
        refine (asc_all ok.left (left_asc ha) (left_nodup hn)).imp fun {a b} h => ?_
        rw [lt_same]
        exact h
      · exact List.Pairwise.nil
    · refine (ha.and hn).imp_of_mem fun {e f} he hf hab x hx y hy => ?_
      obtain ⟨h1, h2⟩ := hab
      split at hx
      · split at hy
        · rename_i s1 s2
          obtain ⟨ps, _, rfl⟩ := List.mem_map.mp hx
          obtain ⟨qs, _, rfl⟩ := List.mem_map.mp hy
          refine lt_less ?_ _ _
          have b1 := ok.2 e he
          have b2 := ok.2 f hf
          obtain ⟨m, p, s⟩ := e
          obtain ⟨m', p', s'⟩ := f
          simp only [codeE, EntB] at h1 b1 b2 s1 s2
          subst s1 s2
          show m < m' ∨ (m = m' ∧ p < p')
          by_cases hm : m = m'
          · subst hm
            refine .inr ⟨rfl, ?_⟩
            have : p ≠ p' := fun z => h2 (by rw [z])
            omega
          · exact .inl (by omega)
        · simp at hy
      · simp at hx
theorem min_first {d : PyData} : ∀ {ds : List PyData}, (∀ y ∈ ds, W.dataLt y d = false) → W.minD d ds = d
  | [], _ => rfl
  | y :: ds, h => by
    unfold W.minD
    rw [List.foldl_cons, h y (List.mem_cons_self ..), if_neg Bool.false_ne_true]
    exact min_first fun z hz => h z (List.mem_cons_of_mem _ hz)
/-- the least of all is the first -/
theorem min_all {n : Nat} {rs : List Ent} {p0 : List Pr2} {rest : List (List Pr2)} (ok : EsOk rs) (ha : Asc rs) (hn : rs.Nodup) (h : allS n rs = p0 :: rest) : W.minD (dP p0) (rest.map dP) = dP p0 := by
  have := asc_all (n := n) ok ha hn
  rw [h] at this
  refine min_first fun y hy => ?_
  obtain ⟨q, hq, rfl⟩ := List.mem_map.mp hy
  exact (List.pairwise_cons.mp this).1 q hq
end Fs

set_option Elab.async false
set_option linter.all false
set_option maxRecDepth 100000
set_option maxHeartbeats 2000000
/-! generators of one's own that are run to their end: what they hand out is a list of data; a generator within a generator -/
namespace FsA
open PySem PySem.Spec PyProof.Rows GenW L2 FsV FsE FsG Evl

/-! ### the heap cut at n: the state in which a run goes on -/
def cut (n : Nat) (h : Heap) : Heap := { h with objs := h.objs.extract 0 n }
def restr (n : Nat) (H : Hp) : Hp := fun b => if b < n then H b else none
theorem cut_size {n : Nat} {h : Heap} : (cut n h).objs.size = min n h.objs.size := by
  show (h.objs.extract 0 n).size = _
  rw [Array.size_extract]; omega
theorem cut_at {n : Nat} {h : Heap} {b : Nat} (hb : b < n) : (cut n h).objs[b]? = h.objs[b]? := by
  show (h.objs.extract 0 n)[b]? = _
  rw [Array.getElem?_extract]
  by_cases q : b < h.objs.size
  · rw [if_pos (by omega), Nat.zero_add]
  · rw [if_neg (by omega), Array.getElem?_eq_none (by omega)]
theorem cut_get {n : Nat} {h : Heap} {b : Addr} (hb : b < n) : (cut n h).get? b = h.get? b := by
  unfold Heap.get?
  rw [cut_at hb]
theorem cut_lt {n : Nat} {h : Heap} {b : Addr} {o : Obj} (e : (cut n h).get? b = some o) : b < n ∧ h.get? b = some o := by
  have h1 := Heap.lt_size e
  rw [cut_size] at h1
  have hb : b < n := Nat.lt_of_lt_of_le h1 (Nat.min_le_left _ _)
  rw [cut_get hb] at e
  exact ⟨hb, e⟩
theorem restr_lt {n : Nat} {H : Hp} {b : Addr} {u : HO} (e : restr n H b = some u) : H b = some u := by
  unfold restr at e
  split at e
  · exact e
  · cases e
theorem restr_none {n : Nat} {H : Hp} {b : Addr} (e : H b = none) : restr n H b = none := by
  unfold restr
  split
  · exact e
  · rfl
theorem restr_of {n : Nat} {H : Hp} {b : Addr} (hb : b < n) : restr n H b = H b := by unfold restr; rw [if_pos hb]
theorem funs_cut {n : Nat} {h base : Heap} : ∀ {l : List Env}, h.FunFrames base l → (∀ b ∈ frs l, b < n) → (cut n h).FunFrames base l
  | [], _, _ => trivial
  | env :: rest, hl, hn => by
    obtain ⟨hk, ⟨L, o, hf, hb, ho, hd⟩, hr⟩ := hl
    have e : frs (env :: rest) = L :: frs rest := by unfold frs; rw [List.filterMap_cons, hf]
    rw [e] at hn
    exact ⟨hk, ⟨L, o, hf, hb, by rw [cut_get (hn L List.mem_cons_self)]; exact ho, hd⟩, funs_cut hr fun b hb => hn b (List.mem_cons_of_mem _ hb)⟩

/-- the context of such a generator's body, its frame at n; the run went on in the state s with the heap H -/
abbrev acx (P : Program) (w : World) (K : PySem.W.Frag) (mg : Str → Option Value) (base : Heap) (N : List Str) (qual : Str) (scope : Scope) (f : Addr) (cd : Value) (A : Around) (outer : List Env) (n : Nat) (s : Shared) (H : Hp) : Cx where
  prog := P
  w := w
  K := K
  mg := mg
  base := base
  A := A.deeper (envOfC qual scope n f cd)
  N := N
  s_0 := { s with heap := cut n s.heap }
  H_0 := restr n H
  env := envOfC qual scope n f cd
  outer := outer
  stack := envOfC qual scope n f cd :: outer
  ex := []
  calm := true
  fn := fun _ => true
  pn := []
  xe := fun e s' => wpAny (model P w) (A.deeper (envOfC qual scope n f cd)) (leaving (envOfC qual scope n f cd) e)
    (fun _ s'' => CX P w outer (restr n H) { s with heap := cut n s.heap } (fun _ _ _ => False) e s'' ∧ ∀ p ∈ ([] : List (Addr × Obj)), s''.heap.get? p.1 = some p.2) (fun _ _ => False) s'

/-- a generator: where it stands, what its consumer may write (W), what holds each time it is asked (Φ: so many are yet to come), all that it hands out -/
structure Gp where
  P : Program
  w : World
  K : PySem.W.Frag
  mg : Str → Option Value
  base : Heap
  A : Around
  outer : List Env
  n : Nat
  a : Addr
  g : Nat
  W : List Addr
  Φ : Nat → Shared → Hp → Prop
  T : Hp → Prop
  L : List PyData
/-- its def -/
structure Df where
  N : List Str
  qual : Str
  scope : Scope
  f : Addr
  cd : Value
abbrev Gp.env (G : Gp) (D : Df) : Env := envOfC D.qual D.scope G.n D.f D.cd
abbrev Gp.X (G : Gp) (D : Df) (s : Shared) (H : Hp) : Cx := acx G.P G.w G.K G.mg G.base D.N D.qual D.scope D.f D.cd G.A G.outer G.n s H

/-- what stays of what is tracked while it sleeps -/
structure VSt (W : List Addr) (H1 H2 : Hp) : Prop where
  same : ∀ b u, b ∉ W → H1 b = some u → (∀ ps, u ≠ .tbl ps) → H2 b = some u
  trk : ∀ b ∈ W, ∃ zs, H2 b = some (.lst zs)
/-- asleep: from the state that it left to the state in which it is asked again, k yet to come -/
structure Zz (G : Gp) (k : Nat) (H1 : Hp) (s1 : Shared) (H2 : Hp) (s2 : Shared) : Prop where
  env : Env0 G.P G.w G.K G.mg G.base G.A G.outer s2 H2
  os : s2.os = s1.os
  gens : ∀ i, G.g < i → i < s1.gens.size → s2.gens[i]? = s1.gens[i]?
  gz : G.g < s2.gens.size
  kin : ∀ b o, G.n ≤ b → H1 b = none → (∀ v, o.data ≠ .cell v) → s1.heap.get? b = some o → s2.heap.get? b = some o ∧ H2 b = none
  view : VSt G.W H1 H2
  tab : G.T H2
  phi : G.Φ k s2 H2
/-- the frame is the caller's before it -/
structure Sane (G : Gp) (D : Df) : Prop where
  frs : ∀ b ∈ L2.frs G.outer, b < G.n
  bsz : G.base.objs.size ≤ G.n
  cells : ∀ x, (cellsFrom (G.n + 1) D.scope.names []).lookup x = none
theorem nocell {h : Heap} {a : Addr} {m : Str → Option Value} (x : h.Ns a m) : ∃ o, h.get? a = some o ∧ ∀ v, o.data ≠ .cell v := by
  obtain ⟨o, es, ep, e, d, _⟩ := x
  exact ⟨o, e, fun v q => by rw [d] at q; cases q⟩
section
variable {G : Gp} {D : Df} {ip : List (Addr × Obj)} {σ : L2.St} {H1 H2 : Hp} {s₀ s1 s2 : Shared} {H₀ : Hp} {k : Nat}
theorem zz_size (I : Inv (G.X D s₀ H₀) ip σ H1 s1) (z : Zz G k H1 s1 H2 s2) : G.n < s2.heap.objs.size := by
  obtain ⟨m, hn, _⟩ := I.loc
  obtain ⟨o, e, d⟩ := nocell hn
  exact Heap.lt_size (z.kin G.n o (Nat.le_refl _) I.free d e).1
/-- THE RUN GOES ON -/
theorem rebase (S : Sane G D) (hip : ∀ p ∈ ip, G.n ≤ p.1) (I : Inv (G.X D s₀ H₀) ip σ H1 s1) (z : Zz G k H1 s1 H2 s2) : Inv (G.X D s2 H2) ip σ H2 s2 := by
  have hz := zz_size I z
  have cnone : ∀ x c, (cellsFrom (G.n + 1) D.scope.names []).lookup x = some c → False := fun x c e => by rw [S.cells x] at e; cases e
  refine ⟨⟨I.ok.mod, I.ok.kind, I.ok.glob, I.ok.blt, ?_, I.ok.inj, I.ok.has, fun x c _ e => (cnone x c e).elim, I.ok.hd, I.ok.frames, I.ok.stk, I.ok.exf, fun b o e => ?_, ?_, I.ok.noex, I.ok.exfs, ?_, fun b hb => restr_none (z.env.frf b hb)⟩,
    rfl, z.env.bare, ?_, ?_, fun x c e => (cnone x c e).elim, ?_, fun x c e => (cnone x c e).elim, fun p hp => ?_, z.env.hok, I.len⟩
  · show (cut G.n s2.heap).objs.size ≤ G.n
    rw [cut_size]; exact Nat.min_le_left _ _
  · have hb : b < G.n := Nat.lt_of_lt_of_le (Heap.lt_size e) S.bsz
    obtain ⟨e1, e2⟩ := z.env.bs b o e
    exact ⟨by show (cut G.n s2.heap).get? b = _; rw [cut_get hb]; exact e1, restr_none e2⟩
  · show G.base.objs.size ≤ (cut G.n s2.heap).objs.size
    rw [cut_size]
    have := S.bsz
    omega
  · exact funs_cut z.env.funs S.frs
  · refine ⟨fun b o e _ _ _ => (cut_lt e).2, fun b o e _ _ _ => ⟨o.slots, (cut_lt e).2⟩, fun b o e q _ => ?_, fun b o e _ => ⟨o, (cut_lt e).2⟩, fun b xs e => restr_lt e, fun b o u e => restr_lt e, fun b ps e => ⟨#[], by rw [restr_lt e]; simp⟩⟩
    have q' : restr G.n H2 b = none := q
    rw [restr_of (cut_lt e).1] at q'
    exact q'
  · obtain ⟨m, hn, hl⟩ := I.loc
    obtain ⟨o, es, ep, e, d, r⟩ := hn
    refine ⟨m, ⟨o, es, ep, (z.kin G.n o (Nat.le_refl _) I.free (fun v q => by rw [d] at q; cases q) e).1, d, r⟩, fun i x v h1 h2 h3 => ?_⟩
    obtain ⟨u, rv, lk⟩ := hl i x v h1 h2 h3
    refine ⟨u, rv, ?_⟩
    rcases lk with q | ⟨_, c, hc, _⟩
    · exact .inl q
    · exact (cnone x c hc).elim
  · obtain ⟨m, hn, _⟩ := I.loc
    obtain ⟨o, e, d⟩ := nocell hn
    exact (z.kin G.n o (Nat.le_refl _) I.free d e).2
  · have hp' : p ∈ ip := by simpa using hp
    obtain ⟨e, q, r1, r2, r3⟩ := I.pin p hp
    obtain ⟨e2, q2⟩ := z.kin p.1 p.2 (hip p hp') q r3 e
    exact ⟨e2, q2, r1, r2, r3⟩
end

/-! ### what its consumer is told of a run from one asking to the next -/
def young (n : Nat) (s : Shared) : List Addr := (List.range s.heap.objs.size).filter fun b => n ≤ b
theorem of_young {n : Nat} {s : Shared} {b : Addr} (h : b ∈ young n s) : n ≤ b := by
  have := (List.mem_filter.mp h).2
  simpa using this
theorem not_young {n : Nat} {s : Shared} {b : Addr} {o : Obj} (e : s.heap.get? b = some o) (h : b ∉ young n s) : b < n := by
  by_cases q : b < n
  · exact q
  · exact absurd (List.mem_filter.mpr ⟨List.mem_range.mpr (Heap.lt_size e), by simpa using Nat.le_of_not_lt q⟩) h
/-- without the tables from n on -/
def dropT (n : Nat) (H : Hp) : Hp := fun b => match H b with
  | some (.tbl ps) => if b < n then some (.tbl ps) else none
  | o => o
theorem dropT_none {n : Nat} {H : Hp} {b : Addr} (e : H b = none) : dropT n H b = none := by unfold dropT; rw [e]
theorem dropT_some {n : Nat} {H : Hp} {b : Addr} {u : HO} (e : H b = some u) (h : ∀ ps, u ≠ .tbl ps) : dropT n H b = some u := by
  unfold dropT
  rw [e]
  cases u <;> first | rfl | exact absurd rfl (h _)
theorem dropT_tbl {n : Nat} {H : Hp} {b : Addr} {ps : Array Value} (e : H b = some (.tbl ps)) (h : b < n) : dropT n H b = some (.tbl ps) := by
  unfold dropT
  rw [e]
  exact if_pos h
theorem of_dropT {n : Nat} {H : Hp} {b : Addr} {u : HO} (e : dropT n H b = some u) : H b = some u ∧ ((∃ ps, u = .tbl ps) → b < n) := by
  unfold dropT at e
  split at e
  · rename_i ps q
    split at e
    · rename_i hb
      cases e
      exact ⟨q, fun _ => hb⟩
    · cases e
  · rename_i q
    refine ⟨e, fun ⟨ps, hu⟩ => ?_⟩
    subst hu
    exact absurd e (q ps)
theorem dropT_lt {n : Nat} {H : Hp} {b : Addr} (h : b < n) : dropT n H b = H b := by
  cases e : H b with
  | none => exact dropT_none e
  | some u =>
    by_cases q : ∃ ps, u = .tbl ps
    · obtain ⟨ps, rfl⟩ := q
      exact dropT_tbl e h
    · exact dropT_some e fun ps z => q ⟨ps, z⟩
theorem hok_dropT {P : Program} {w : World} {n : Nat} {H : Hp} {h : Heap} (x : HOk P w H h) : HOk P w (dropT n H) h := fun b u e =>
  (x b u (of_dropT e).1).stay (fun _ _ _ q => q) (fun c q => dropT_some q fun ps z => (by cases z)) fun c xs q => dropT_some q fun ps z => by cases z
theorem Inv.dropT {X : Cx} {pins : List (Addr × Obj)} {σ : L2.St} {H : Hp} {s : Shared} (n : Nat) (I : Inv X pins σ H s) (h : ∀ b ps, X.H_0 b = some (.tbl ps) → b < n) : Inv X pins σ (FsA.dropT n H) s :=
  ⟨I.ok, I.os, I.bare, ⟨I.base.keep, I.base.slot, fun b o e q hx => dropT_none (I.base.free b o e q hx), I.base.there, fun b xs e => dropT_some (I.base.tups b xs e) fun ps z => (by cases z), fun b o u e => dropT_some (I.base.frzs b o u e) fun ps z => (by cases z),
    fun b ps e => let ⟨more, q⟩ := I.base.tbls b ps e; ⟨more, dropT_tbl q (h b ps e)⟩⟩, I.loc, I.cell, dropT_none I.free, fun x c e => dropT_none (I.freeC x c e), fun p hp => let ⟨e, q, r⟩ := I.pin p hp; ⟨e, dropT_none q, r⟩, hok_dropT I.hok, I.len⟩
structure Sr (G : Gp) (Hs : Hp) (s₀ : Shared) (H : Hp) (s : Shared) : Prop where
  os : s.os = s₀.os
  bare : AllBare s.gens
  un : Un (L2.frs G.outer) (young G.n s₀) (dropT G.n Hs) H s₀.heap s.heap
  hok : HOk G.P G.w H s.heap
  ext : LamX.ExtN Hs H
  tab : G.T H
theorem sr_of {G : Gp} {D : Df} {ip : List (Addr × Obj)} {σ : L2.St} {Hs H : Hp} {s₀ s : Shared} (I : Inv (G.X D s₀ Hs) ip σ H s) (e : LamX.ExtN Hs H) (t : G.T H) : Sr G Hs s₀ H s where
  os := I.os
  bare := I.bare
  hok := I.hok
  ext := e
  tab := t
  un := by
    have lt : ∀ {b : Addr} {o : Obj}, s₀.heap.get? b = some o → b ∉ young G.n s₀ → (cut G.n s₀.heap).get? b = some o := fun {b o} e hx => by rw [cut_get (not_young e hx)]; exact e
    have nn : ∀ {b : Addr} {o : Obj}, s₀.heap.get? b = some o → b ∉ young G.n s₀ → dropT G.n Hs b = none → restr G.n Hs b = none := fun {b o} e hx q => by
      have hb := not_young e hx
      rw [restr_of hb, ← dropT_lt (H := Hs) hb]
      exact q
    refine ⟨fun b o q n1 hb hx => I.base.keep b o (lt q hx) (nn q hx n1) hb (by simp), fun b o q n1 hb hx => I.base.slot b o (lt q hx) (nn q hx n1) hb (by simp), fun b o q n1 hx => I.base.free b o (lt q hx) (nn q hx n1) (by simp),
      fun b o q hx => I.base.there b o (lt q hx) (by simp), fun b xs q => e b _ (of_dropT q).1 fun ps z => (by cases z), fun b o u q => e b _ (of_dropT q).1 fun ps z => (by cases z), fun b ps q => ?_⟩
    obtain ⟨q1, q2⟩ := of_dropT q
    have hb := q2 ⟨ps, rfl⟩
    exact I.base.tbls b ps (by show restr G.n Hs b = _; rw [restr_of hb]; exact q1)
/-- the consumer behind such a run -/
theorem Inv.ran {G : Gp} {X : Cx} {pins : List (Addr × Obj)} {σ : L2.St} {Hs H : Hp} {s₀ s : Shared} (hP : G.P = X.prog) (hw : G.w = X.w) (ho : G.outer = X.stack) (I : Inv X pins σ Hs s₀) (r : Sr G Hs s₀ H s) (hn : X.s_0.heap.objs.size ≤ G.n) (hl : X.env.locals < G.n) (hc : ∀ x c, X.env.cells.lookup x = some c → c < G.n)
    (hp : ∀ p ∈ X.pn ++ pins, p.1 < G.n) (ht : ∀ b ps, X.H_0 b = some (.tbl ps) → b < G.n) : Inv X pins σ H s := by
  refine (FsA.Inv.dropT G.n I ht).call' (ch := young G.n s₀) r.os (by rw [← ho]; exact r.un) (by rw [← hP, ← hw]; exact r.hok) r.bare fun b hb => ?_
  have hb := of_young hb
  exact ⟨.inr (Nat.le_trans hn hb), Nat.ne_of_gt (Nat.lt_of_lt_of_le hl hb), fun x c e => Nat.ne_of_lt (Nat.lt_of_lt_of_le (hc x c e) hb), fun p q => Nat.ne_of_lt (Nat.lt_of_lt_of_le (hp p q) hb)⟩

/-! ### the protocol -/
def YA (G : Gp) : Protocol := fun k _ v s kap => ∃ pre d L' x s₁ Hs H, G.L = pre ++ d :: L' ∧ L'.length + 1 = k ∧ G.Φ k s₁ Hs ∧ Sr G Hs s₁ H s ∧ RelV x v ∧ DaAt H x d ∧ s.heap.IsGen G.a G.g ∧ H G.a = none ∧ s.heap.NoLimit ∧ G.g < s.gens.size ∧ ∀ s2 H2, Zz G L'.length H s H2 s2 → kap (.send .none) s2
def RA (G : Gp) : GenEnd := fun k _ r s => (r = .ok (.ret .none) ∨ r = .ok .next) ∧ k = 1 ∧ ∃ s₁ Hs H, G.Φ 0 s₁ Hs ∧ Sr G Hs s₁ H s
/-- it rests, k yet to come -/
def Rest (G : Gp) (k : Nat) (H1 : Hp) (s1 : Shared) : Prop := ∃ gs, s1.gens[G.g]? = some gs ∧ ∀ s2 H2, Zz G k H1 s1 H2 s2 → gs.Goes (model G.P G.w) G.A (RA G) (YA G) (k + 1) (.send .none) s2

/-- what is wanted behind a statement of such a generator: what is yet to come, the heap at the last asking -/
structure Eb where
  nx : List PyData → Hp → L2.St → Hp → Prop
  rt : List PyData → Hp → VK
  bk : List PyData → Hp → L2.St → Hp → Prop := fun _ _ _ _ => False
  ct : List PyData → Hp → L2.St → Hp → Prop := fun _ _ _ _ => False
abbrev TFa := Eb → List PyData → Hp → L2.St → Hp → Prop
def Eb.at (E : Eb) (L : List PyData) (Hs : Hp) : Ends := { nx := E.nx L Hs, rt := E.rt L Hs, bk := E.bk L Hs, ct := E.ct L Hs }
structure Good (G : Gp) (L : List PyData) (s₁ : Shared) (Hs : Hp) : Prop where
  sfx : ∃ pre, G.L = pre ++ L
  phi : G.Φ L.length s₁ Hs
  sz : G.n ≤ s₁.heap.objs.size
structure Ipn (G : Gp) (ip : List (Addr × Obj)) : Prop where
  le : ∀ p ∈ ip, G.n ≤ p.1
  gen : ∃ go nm qn, (G.a, go) ∈ ip ∧ go.cls = .type "generator" ∧ go.data = .fields #[.int G.g 0, nm, qn] ∧ go.slots = #[]
theorem Ipn.more {G : Gp} {ip ip' : List (Addr × Obj)} (h : Ipn G ip) (q : ∀ p ∈ ip', G.n ≤ p.1) : Ipn G (ip ++ ip') :=
  ⟨fun p hp => (List.mem_append.mp hp).elim (h.le p) (q p), let ⟨go, nm, qn, h1, h2⟩ := h.gen; ⟨go, nm, qn, List.mem_append_left _ h1, h2⟩⟩
theorem Ipn.isGen {G : Gp} {X : Cx} {ip : List (Addr × Obj)} {σ : L2.St} {H : Hp} {s : Shared} (h : Ipn G ip) (I : Inv X ip σ H s) : s.heap.IsGen G.a G.g :=
  let ⟨go, nm, qn, h1, h2, h3, h4⟩ := h.gen; ⟨go, nm, qn, (I.pin _ (List.mem_append_right _ h1)).1, h2, h3, h4⟩
theorem Ipn.hid {G : Gp} {X : Cx} {ip : List (Addr × Obj)} {σ : L2.St} {H : Hp} {s : Shared} (h : Ipn G ip) (I : Inv X ip σ H s) : H G.a = none :=
  let ⟨go, nm, qn, h1, _⟩ := h.gen; (I.pin _ (List.mem_append_right _ h1)).2.1
/-- what follows -/
structure FKa (G : Gp) (D : Df) (ip : List (Addr × Obj)) (c : Code) (fs : List Frame) (K : Flow → Sem PySem.Fin) (J : Value → Sem PySem.Fin) (E : Eb) : Prop where
  ok : ∀ (L : List PyData) (s₀ s₁ : Shared) (Hs : Hp) (s : Shared) (f : Flow), Good G L s₁ Hs → G.g < s.gens.size → SP (G.X D s₁ Hs) ip (E.at L Hs) f s → Seg (model G.P G.w) G.A (RA G) (YA G) (L.length + 1) s₀ c (K f) fs s
  exc : ∀ (L : List PyData) (s₀ s₁ : Shared) (Hs : Hp) (e : Value) (s : Shared), (G.X D s₁ Hs).xe e s → Seg (model G.P G.w) G.A (RA G) (YA G) (L.length + 1) s₀ c (J e) fs s
/-- where the generator's code stands -/
structure FCa (G : Gp) (D : Df) (c : Code) (fs : List Frame) (gd : Bool → Bool) : Prop where
  over : G.A.over c fs = G.A.deeper (G.env D)
  split : splitAtGen fs = none
  guard : fs.any Frame.guarded = false
  gd : gd false = false
structure GFa (G : Gp) (D : Df) (st : Stmt) (t : TFa) : Prop where
  run : ∀ (ip : List (Addr × Obj)) (L : List PyData) (s₀ : Shared) (c : Code) (fs : List Frame) (K : Flow → Sem PySem.Fin) (J : Value → Sem PySem.Fin) (gd : Bool → Bool) (lv : List Value → List Value) (s₁ : Shared) (Hs : Hp) (s : Shared) (σ : L2.St) (H : Hp) (E : Eb),
    FCa G D c fs gd → FKa G D ip c fs K J E → Good G L s₁ Hs → Ipn G ip → G.g < s.gens.size → Inv (G.X D s₁ Hs) ip σ H s → t E L Hs σ H →
    Seg (model G.P G.w) G.A (RA G) (YA G) (L.length + 1) s₀ c ((exec st (G.env D)).wrap K J gd lv) fs s
structure GFas (G : Gp) (D : Df) (st : List Stmt) (t : TFa) : Prop where
  run : ∀ (ip : List (Addr × Obj)) (L : List PyData) (s₀ : Shared) (c : Code) (fs : List Frame) (K : Flow → Sem PySem.Fin) (J : Value → Sem PySem.Fin) (gd : Bool → Bool) (lv : List Value → List Value) (s₁ : Shared) (Hs : Hp) (s : Shared) (σ : L2.St) (H : Hp) (E : Eb),
    FCa G D c fs gd → FKa G D ip c fs K J E → Good G L s₁ Hs → Ipn G ip → G.g < s.gens.size → Inv (G.X D s₁ Hs) ip σ H s → t E L Hs σ H →
    Seg (model G.P G.w) G.A (RA G) (YA G) (L.length + 1) s₀ c ((execs st (G.env D)).wrap K J gd lv) fs s

section
variable {G : Gp} {D : Df} {st : Stmt} {rest : List Stmt} {pos : Pos}
def tAP (t : TS) : TFa := fun E L Hs σ H => t (E.at L Hs) σ H
theorem gfa_ps {t : TS} (h : ∀ s H, PS (G.X D s H) st t) : GFa G D st (tAP t) := by
  refine ⟨fun ip L s₀ c fs K J gd lv s₁ Hs s σ H E g k hG hI hg I ht => ?_⟩
  refine seg_wrap ?_
  rw [g.over]
  refine wpAny_gsz (n := G.g + 1) hg (wpAny_mono ((h s₁ Hs).run _ s σ H (E.at L Hs) I ht) (fun f s' hs hz => k.ok L s₀ s₁ Hs s' f hG hz hs) fun x s' hx _ => k.exc L s₀ s₁ Hs x s' hx)
theorem gfas_pss {t : TS} (h : ∀ s H, PSs (G.X D s H) rest t) : GFas G D rest (tAP t) := by
  refine ⟨fun ip L s₀ c fs K J gd lv s₁ Hs s σ H E g k hG hI hg I ht => ?_⟩
  refine seg_wrap ?_
  rw [g.over]
  refine wpAny_gsz (n := G.g + 1) hg (wpAny_mono ((h s₁ Hs).run _ s σ H (E.at L Hs) I ht) (fun f s' hs hz => k.ok L s₀ s₁ Hs s' f hG hz hs) fun x s' hx _ => k.exc L s₀ s₁ Hs x s' hx)
def tA0 : TFa := fun E L Hs σ H => E.nx L Hs σ H
theorem gfas_nil : GFas G D [] tA0 := by
  refine ⟨fun ip L s₀ c fs K J gd lv s₁ Hs s σ H E g k hG hI hg I ht => ?_⟩
  exact seg_execs_nil (k.ok L s₀ s₁ Hs s .next hG hg ⟨σ, H, I, ht⟩)
def tASeq (t u : TFa) : TFa := fun E L Hs σ H => t { E with nx := fun L' Hs' σ' H' => u E L' Hs' σ' H' } L Hs σ H
theorem gfas_cons {t u : TFa} (a : GFa G D st t) (b : GFas G D rest u) : GFas G D (st :: rest) (tASeq t u) := by
  refine ⟨fun ip L s₀ c fs K J gd lv s₁ Hs s σ H E g k hG hI hg I ht => ?_⟩
  refine seg_execs_cons ?_
  refine a.run ip L s₀ c fs _ J gd lv s₁ Hs s σ H { E with nx := fun L' Hs' σ' H' => u E L' Hs' σ' H' } g ⟨fun L' s₀' s₁' Hs' s' f hG' hg' hs => ?_, k.exc⟩ hG hI hg I ht
  cases f with
  | next =>
    obtain ⟨σ', H', I', q⟩ := hs
    exact b.run ip L' s₀' c fs K J gd lv s₁' Hs' s' σ' H' E g k hG' hI hg' I' q
  | brk => exact k.ok L' s₀' s₁' Hs' s' .brk hG' hg' hs
  | cont => exact k.ok L' s₀' s₁' Hs' s' .cont hG' hg' hs
  | ret u => exact k.ok L' s₀' s₁' Hs' s' (.ret u) hG' hg' hs
theorem gfas_one {t : TFa} (a : GFa G D st t) : GFas G D [st] (tASeq t tA0) := gfas_cons a gfas_nil
def tAIf (tc : TT) (ta tb : TFa) : TFa := fun E L Hs σ H => tc σ H fun b H1 => if b = true then ta E L Hs σ H1 else tb E L Hs σ H1
theorem gfa_if {test : Expr} {body orelse : List Stmt} {tc : TT} {ta tb : TFa} (hc : ∀ s H, PT (G.X D s H) test tc) (ha : GFas G D body ta) (hb : GFas G D orelse tb) : GFa G D (.If test body orelse pos) (tAIf tc ta tb) := by
  refine ⟨fun ip L s₀ c fs K J gd lv s₁ Hs s σ H E g k hG hI hg I ht => ?_⟩
  show Seg _ _ _ _ _ s₀ c (.at pos fun _ => ((isTrue test (G.env D) (eval test (G.env D))) >>= fun b => if b = true then execs body (G.env D) else execs orelse (G.env D)).wrap K J gd lv) fs s
  refine seg_at ?_
  refine seg_bind_wrap ?_
  rw [g.over]
  refine wpAny_gsz (n := G.g + 1) hg (wpAny_mono ((hc s₁ Hs).run _ s σ H _ I ht) (fun b s' hb' hz => ?_) fun x s' hx _ => k.exc L s₀ s₁ Hs x s' hx)
  obtain ⟨H2, I2, q2⟩ := hb'
  cases b with
  | true =>
    rw [if_pos rfl] at q2
    rw [if_pos rfl]
    exact ha.run ip L s₀ c fs K J gd lv s₁ Hs s' σ H2 E g k hG hI hz I2 q2
  | false =>
    rw [if_neg Bool.false_ne_true] at q2
    rw [if_neg Bool.false_ne_true]
    exact hb.run ip L s₀ c fs K J gd lv s₁ Hs s' σ H2 E g k hG hI hz I2 q2
def tAY (G : Gp) (te : TE) : TFa := fun E L Hs σ H => ∃ d L', L = d :: L' ∧ te σ H fun x H1 => DaAt H1 x d ∧ LamX.ExtN Hs H1 ∧ G.T H1 ∧ ∀ H2, VSt G.W H1 H2 → G.T H2 → E.nx L' H2 σ H2
/-- the protocol's word at a yield, from what follows -/
theorem ya_of {ip : List (Addr × Obj)} {L' : List PyData} {d : PyData} {s₀ s₁ s : Shared} {Hs H : Hp} {σ : L2.St} {v : Value} {x : V} {kap : Resume → Shared → Prop} (hG : Good G (d :: L') s₁ Hs) (hI : Ipn G ip) (hg : G.g < s.gens.size) (I : Inv (G.X D s₁ Hs) ip σ H s) (e : LamX.ExtN Hs H) (t : G.T H) (rv : RelV x v) (hd : DaAt H x d)
    (h : ∀ s2 H2, Zz G L'.length H s H2 s2 → Good G L' s2 H2 → kap (.send .none) s2) : YA G (L'.length + 1) s₀ v s kap := by
  obtain ⟨pre, hp⟩ := hG.sfx
  exact ⟨pre, d, L', x, s₁, Hs, H, hp, rfl, hG.phi, sr_of I e t, rv, hd, hI.isGen I, hI.hid I, I.nolimit, hg, fun s2 H2 z => h s2 H2 z ⟨⟨pre ++ [d], by rw [hp]; simp⟩, z.phi, Nat.le_of_lt (zz_size I z)⟩⟩
theorem gfa_yield {e : Expr} {yp : Pos} {te : TE} (S : Sane G D) (he : ∀ s H, PE (G.X D s H) e te) (hco : (G.env D).scope.isCoroutine = false := by rfl) (hi : interactive (G.env D) = false := by rfl) : GFa G D (.Expr (.Yield (some e) yp) pos) (tAY G te) := by
  refine ⟨fun ip L s₀ c fs K J gd lv s₁ Hs s σ H E g k hG hI hg I ht => ?_⟩
  obtain ⟨d, L', rfl, ht⟩ := ht
  refine seg_Expr_Yield (n := L'.length + 1) g.split g.gd g.guard ?_ hco hi
  rw [g.over]
  refine wpAny_gsz (n := G.g + 1) hg (wpAny_mono ((he s₁ Hs).run _ s σ H _ I ht) (fun v s' hv hz => ?_) fun x s' hx _ => k.exc (d :: L') _ s₁ Hs x s' hx)
  obtain ⟨x, H1, I1, rv, hd, hex, ht1, q⟩ := hv
  intro kap hk
  exact ya_of hG hI hz I1 hex ht1 rv hd fun s2 H2 z hG2 => hk .none s2 (k.ok L' s2 s2 H2 s2 .next hG2 z.gz ⟨σ, H2, rebase S hI.le I1 z, q H2 z.view z.tab⟩)
theorem gfa_never : GFa G D st (fun _ _ _ _ _ => False) := ⟨fun _ _ _ _ _ _ _ _ _ _ _ _ _ _ _ _ _ _ _ _ _ h => h.elim⟩
theorem gfas_never : GFas G D rest (fun _ _ _ _ _ => False) := ⟨fun _ _ _ _ _ _ _ _ _ _ _ _ _ _ _ _ _ _ _ _ _ h => h.elim⟩
end
end FsA

set_option Elab.async false
set_option linter.all false
set_option maxRecDepth 100000
set_option maxHeartbeats 2000000
/-! asked again and again: next, the def's promise -/
namespace FsA
open PySem PySem.Spec PyProof.Rows GenW L2 FsV FsE FsG Evl

theorem ya_mono {G : Gp} {k : Nat} {s₀ : Shared} {v : Value} {s : Shared} {kap kap' : Resume → Shared → Prop} (hk : ∀ r s', kap r s' → kap' r s') (h : YA G k s₀ v s kap) : YA G k s₀ v s kap' := by
  obtain ⟨pre, d, L', x, s₁, Hs, H, h1, h2, h3, h4, h5, h6, h7, h7b, h8, h9, h10⟩ := h
  exact ⟨pre, d, L', x, s₁, Hs, H, h1, h2, h3, h4, h5, h6, h7, h7b, h8, h9, fun s2 H2 z => hk _ _ (h10 s2 H2 z)⟩
theorem goes_imp {G : Gp} {M : Model} {A : Around} {R R' : GenEnd} (hR : ∀ n s₀ r s, R n s₀ r s → R' n s₀ r s) {n : Nat} {gs : GenState} {r : Resume} {s : Shared} (h : gs.Goes M A R (YA G) n r s) : gs.Goes M A R' (YA G) n r s := by
  cases gs with
  | fresh c => exact ⟨h.1, seg_imp (Y := YA G) (Y' := YA G) hR (fun _ _ _ _ _ _ q z => ya_mono q z) n h.2⟩
  | suspended k _ c _ fs _ => exact seg_imp (Y := YA G) (Y' := YA G) hR (fun _ _ _ _ _ _ q z => ya_mono q z) n h
  | running => exact h.elim
  | finished => exact h.elim
theorem setGen_ne {s : Shared} {g i : Nat} {x : GenState} (h : g ≠ i) : (s.setGen g x).gens[i]? = s.gens[i]? := by
  show (s.gens.setIfInBounds g x)[i]? = s.gens[i]?
  rw [Array.getElem?_setIfInBounds_ne h]
section
variable {G : Gp} {L : List PyData} {H1 H2 : Hp} {s1 s2 : Shared} {Ac : Around} {Q : Option Value → Shared → Prop} {E : Value → Shared → Prop}
/-- NEXT -/
theorem next_A (hA : G.A = Ac.in1) (hh : Ac.handled = none) (hd : Ac.depth < recursionLimit) (lim : s2.heap.NoLimit) (hg : s2.heap.IsGen G.a G.g) (hgs : s2.gens[G.g]? = s1.gens[G.g]?) (r : Rest G L.length H1 s1) (hL : ∃ pre, G.L = pre ++ L)
    (z : Zz G L.length H1 s1 H2 (s2.setGen G.g .running))
    (hN : L = [] → ∀ s₁ Hs H s', G.Φ 0 s₁ Hs → Sr G Hs s₁ H s' → Q none s')
    (hS : ∀ d L' x v s₁ Hs H s', L = d :: L' → G.Φ L.length s₁ Hs → Sr G Hs s₁ H s' → RelV x v → DaAt H x d → Rest G L'.length H s' → s'.heap.IsGen G.a G.g → H G.a = none → G.g < s'.gens.size → Q (some v) s') :
    wpAny (model G.P G.w) Ac (pyNext (.ref G.a)) Q E s2 := by
  obtain ⟨gs, hgs1, go⟩ := r
  have e2 : s2.gens[G.g]? = some gs := hgs.trans hgs1
  have hlt : G.g < s2.gens.size := (Array.getElem?_eq_some_iff.mp e2).1
  have gone := go _ _ z
  rw [hA] at gone
  refine wpAny_gsz (n := G.g + 1) hlt (next_genG (n := L.length + 1) (gs := gs) (F := fun k s₀ s => k = 1 ∧ ∃ s₁ Hs H, G.Φ 0 s₁ Hs ∧ Sr G Hs s₁ H s) (Er := fun _ _ => False) (Y := YA G) hh lim hd hg e2
    (goes_imp (fun n s₀ r s h => .inl h) gone) (fun v t gs' hbare hY hsz => ?_) (fun t hp h' hk hsz => ?_) fun e t he => he.elim)
  · obtain ⟨pre, d, L', x, s₁, Hs, H, hp, hl, hphi, sr, rv, hda, hig, hid, hlim, hgz, hk⟩ := hY
    obtain ⟨pre0, hp0⟩ := hL
    have hl' : L'.length + 1 = L.length := hl
    have eL : L = d :: L' := (List.append_inj' (hp0.symm.trans hp) (by rw [← hl']; rfl)).2
    have hsz' : G.g < t.gens.size := by
      have q : (t.setGen G.g gs').gens.size = t.gens.size := setGen_size _ _ _
      have : G.g + 1 ≤ (t.setGen G.g gs').gens.size := hsz
      omega
    refine hS d L' x v s₁ Hs H _ eL hphi ⟨sr.os, allBare_setGen sr.bare hbare, sr.un, sr.hok, sr.ext, sr.tab⟩ rv hda ⟨gs', setGen_at hsz', fun s3 H3 z3 => ?_⟩ hig hid (by rw [setGen_size]; exact hsz')
    have z3' : Zz G L'.length H t H3 s3 := ⟨z3.env, z3.os, fun i hi hi2 => (z3.gens i hi (by rw [setGen_size]; exact hi2)).trans (setGen_ne (Nat.ne_of_lt hi)), z3.gz, z3.kin, z3.view, z3.tab, z3.phi⟩
    have q := hk s3 H3 z3'
    have q2 : gs'.Goes (model G.P G.w) Ac.in1 (fun n s₀ r s₁ => ((r = .ok (.ret .none) ∨ r = .ok .next) ∧ n = 1 ∧ ∃ s₁' Hs H, G.Φ 0 s₁' Hs ∧ Sr G Hs s₁' H s₁) ∨ ∃ e, r = .error e ∧ False) (YA G) L.length (.send .none) s3 := q
    rw [hA, hl']
    exact goes_imp (fun n s₀ r s h => h.elim id fun ⟨_, _, z⟩ => z.elim) q2
  · obtain ⟨h1, s₁, Hs, H, hphi, sr⟩ := hp
    have eL : L = [] := List.length_eq_zero_iff.mp (by omega)
    exact hN eL s₁ Hs H _ hphi ⟨sr.os, allBare_setGen sr.bare rfl, sr.un.trans (Un.kept hk), sr.hok.kept hk, sr.ext, sr.tab⟩
end

/-! ### the def's promise -/
/-- the arguments, the heap, what the consumer may write, all that is handed out -/
abbrev SpA := List V → Hp → List Addr → List PyData → Prop
/-- a generator that has not begun -/
def GMadeA (P : Program) (w : World) (K : PySem.W.Frag) (mg : Str → Option Value) (base : Heap) (k : Nat) (T : Hp → Prop) (outer : List Env) (H : Hp) (s : Shared) (W : List Addr) (L : List PyData) (u : Value) (s' : Shared) : Prop :=
  ∃ (a g : Nat), u = .ref a ∧ s.heap.objs.size ≤ a ∧ a < s'.heap.objs.size ∧ s'.heap.IsGen a g ∧ g < s'.gens.size ∧ s.gens.size ≤ g ∧ (∀ i, i < s.gens.size → s'.gens[i]? = s.gens[i]?) ∧ s'.os = s.os ∧ AllBare s'.gens ∧ (∀ b o, s.heap.get? b = some o → s'.heap.get? b = some o) ∧
    (∀ (A : Around) (Φ : Nat → Shared → Hp → Prop) (W' : List Addr), (∀ b ∈ W', b ∈ W ∨ s'.heap.objs.size ≤ b) → Room k A → A.frames = some outer → Rest ⟨P, w, K, mg, base, A, outer, s.heap.objs.size, a, g, W', Φ, T, L⟩ L.length H s')
structure GFnA (P : Program) (w : World) (K : PySem.W.Frag) (mg : Str → Option Value) (base : Heap) (k : Nat) (T : Hp → Prop) (f : Addr) (fd : FuncData) (ps : List Str) (sp : SpA) : Prop where
  len : ∀ vs H W L, sp vs H W L → vs.length = ps.length
  run : ∀ (A : Around) (outer : List Env) (s : Shared) (H : Hp) (args : Args) (us : List Value) (vs : List V) (W : List Addr) (L : List PyData), Room k A → Env0 P w K mg base A outer s H → BindsTo s fd args (ps.zip us) → Vals vs us → sp vs H W L →
    codeAny (model P w) A (.call (.ref f) args) (fun r s' => match r with | .ok (.ret u) => GMadeA P w K mg base k T outer H s W L u s' | _ => False) s

theorem to_acx {P : Program} {w : World} {K : PySem.W.Frag} {mg : Str → Option Value} {base : Heap} {N : List Str} {qual : Str} {scope : Scope} {f : Addr} {cd : Value} {A : Around} {outer : List Env} {s s1 : Shared} {H H1 : Hp} {ip : List (Addr × Obj)} {σ : L2.St}
    (I : Inv (gcxOf P w K mg base N qual scope f cd A outer s H (fun _ _ _ => False) []) ip σ H1 s1) (S : ∀ b ∈ L2.frs outer, b < s.heap.objs.size) : Inv (acx P w K mg base N qual scope f cd A outer s.heap.objs.size s H) ip σ H1 s1 := by
  have lt : ∀ {b : Addr} {o : Obj}, s.heap.get? b = some o → (cut s.heap.objs.size s.heap).get? b = some o := fun e => by rw [cut_get (Heap.lt_size e)]; exact e
  have hsz : (cut s.heap.objs.size s.heap).objs.size = s.heap.objs.size := by rw [cut_size]; exact Nat.min_self _
  refine ⟨⟨I.ok.mod, I.ok.kind, I.ok.glob, I.ok.blt, ?_, I.ok.inj, I.ok.has, fun x c h e => ?_, I.ok.hd, I.ok.frames, I.ok.stk, I.ok.exf, fun b o e => ?_, ?_, I.ok.noex, I.ok.exfs, funs_cut I.ok.funs S, fun b hb => restr_none (I.ok.frf b hb)⟩,
    I.os, I.bare, ?_, I.loc, I.cell, I.free, I.freeC, I.pin, I.hok, I.len⟩
  · show (cut s.heap.objs.size s.heap).objs.size ≤ s.heap.objs.size
    rw [hsz]; exact Nat.le_refl _
  · show (cut s.heap.objs.size s.heap).objs.size ≤ c
    rw [hsz]; exact I.ok.cab x c h e
  · obtain ⟨e1, e2⟩ := I.ok.bs b o e
    exact ⟨lt e1, restr_none e2⟩
  · show base.objs.size ≤ (cut s.heap.objs.size s.heap).objs.size
    rw [hsz]; exact I.ok.bsz
  · have nn : ∀ {b : Addr} {o : Obj}, (cut s.heap.objs.size s.heap).get? b = some o → restr s.heap.objs.size H b = none → H b = none := fun e q => by
      rw [restr_of (cut_lt e).1] at q; exact q
    exact ⟨fun b o e q hb hx => I.base.keep b o (cut_lt e).2 (nn e q) hb hx, fun b o e q hb hx => I.base.slot b o (cut_lt e).2 (nn e q) hb hx, fun b o e q hx => I.base.free b o (cut_lt e).2 (nn e q) hx, fun b o e hx => I.base.there b o (cut_lt e).2 hx,
      fun b xs e => I.base.tups b xs (restr_lt e), fun b o u e => I.base.frzs b o u (restr_lt e), fun b ps e => I.base.tbls b ps (restr_lt e)⟩

abbrev EbEnd (T : Hp → Prop) : Eb := { nx := fun L Hs _ H => L = [] ∧ LamX.ExtN Hs H ∧ T H, rt := fun L Hs v H => v = .non ∧ L = [] ∧ LamX.ExtN Hs H ∧ T H }
/-- THE RULE -/
theorem gfnA_of {P : Program} {w : World} {K : PySem.W.Frag} {mg : Str → Option Value} {base : Heap} {k : Nat} {f : Addr} {name qual : Str} {params : Arguments} {body : List Stmt} {scope : Scope} {dV kV doc pm cdv ct oc : Value} {an od : Option Addr}
    {osl : Array (Option Value)} {N ps : List Str} {sp : SpA} {T : Hp → Prop} (lk : K.lookup f = some ⟨oc, od, .func (PySem.W.fnOf name qual params body scope dV kV doc pm an cdv ct), osl⟩) (hcd : PySem.W.codeIn K cdv qual = true) (S : GScope N ps scope)
    (hcl : ∀ m x, (cellsFrom m scope.names []).lookup x = none)
    (len : ∀ vs H W L, sp vs H W L → vs.length = ps.length) (mono : ∀ vs H W W' L, sp vs H W L → (∀ b ∈ W', b ∈ W ∨ H b = none) → sp vs H W' L)
    (hbody : ∀ (A : Around) (outer : List Env) (n a g : Nat) (W : List Addr) (Φ : Nat → Shared → Hp → Prop) (L : List PyData) (vs : List V) (H : Hp), Room k (A.deeper (envOfC qual scope n f cdv)) → sp vs H W L → Sane ⟨P, w, K, mg, base, A, outer, n, a, g, W, Φ, T, L⟩ ⟨N, qual, scope, f, cdv⟩ →
      ∃ t, GFas ⟨P, w, K, mg, base, A, outer, n, a, g, W, Φ, T, L⟩ ⟨N, qual, scope, f, cdv⟩ body t ∧ ∀ H2, VSt W H H2 → T H2 → t (EbEnd T) L H2 (start N vs) H2) :
    GFnA P w K mg base (k + 1) T f (PySem.W.fnOf name qual params body scope dV kV doc pm an cdv ct) ps sp := by
  refine ⟨len, fun A outer s H args as_ vs W L room env0 hb rr hsp => ?_⟩
  have len0 := len _ _ _ _ hsp
  have kin0 : K.In s.heap := env0.mod.kin.keeps fun b o e => (env0.bs b o e).1
  have nl0 : s.heap.NoLimit := env0.mod.nolimit.keeps fun b o e => (env0.bs b o e).1
  have kinds : ∀ y ∈ ps.zip as_, scope.names.lookup y.1 = some .local ∨ (scope.names.lookup y.1 = some .cell ∧ ((cellsFrom (s.heap.objs.size + 1) scope.names []).lookup y.1).isSome = true) := fun ⟨n, v⟩ hy => by
    rcases S.par n (List.of_mem_zip hy).1 with q | q
    · exact .inl q
    · exact .inr ⟨q, PySem.W.cellsFrom_some _ _ _ (.inl q)⟩
  refine codeAny_call_generator room.depth (kin0 _ _ lk) rfl S.co S.gen rfl (PySem.W.codeRec_of kin0 hcd) (hb _ _ _ _ ?_)
  refine wpAny_newFunctionEnv_cells S.kind kinds fun env he sA x => ?_
  subst he
  have nlA : sA.heap.NoLimit := nl0.keeps x.toInCall.keep
  refine ⟨nlA, ?_⟩
  obtain ⟨hA, tk, esA, hkA⟩ := x.done
  have osA : sA.os = s.os := by rw [esA]
  have gnA : sA.gens = s.gens := by rw [esA]
  have ltA : s.heap.objs.size < sA.heap.objs.size := x.toInCall.ns.lt
  have kpA : ∀ b o, s.heap.get? b = some o → sA.heap.get? b = some o := x.toInCall.keep
  have frsLt : ∀ b ∈ L2.frs outer, b < s.heap.objs.size := fun b hb => by
    obtain ⟨_, o, e, _⟩ := env0.funs.mem hb
    exact Heap.lt_size e
  have made : ∀ (go : Obj) (nm qn : Value) (tk2 : Nat), go.cls = .type "generator" → go.data = .fields #[.int sA.gens.size 0, nm, qn] → go.slots = #[] → (∀ h : Heap, (h.push go).get? h.objs.size = some go) →
      GMadeA P w K mg base (k + 1) T outer H s W L (.ref sA.heap.objs.size) { sA with gens := sA.gens.push (.fresh (.func body (envOfC qual scope s.heap.objs.size f cdv))), toks := tk2, heap := sA.heap.push go } := by
    intro go nm qn tk2 goC goD goS goP
    have atNew : (sA.heap.push go).get? sA.heap.objs.size = some go := goP _
    have bareN : AllBare (sA.gens.push (.fresh (.func body (envOfC qual scope s.heap.objs.size f cdv)))) := AllBare.push (by rw [gnA]; exact env0.bare) rfl
    refine ⟨sA.heap.objs.size, sA.gens.size, rfl, Nat.le_of_lt ltA, ?_, ⟨go, nm, qn, atNew, goC, goD, goS⟩, ?_, by rw [gnA]; exact Nat.le_refl _, fun i hi => ?_, osA, bareN, fun b o e => Heap.get?_push_of_some _ (kpA b o e), fun Aw Φ W' hW hrw hfr => ⟨_, Array.getElem?_push_size .., fun s2 H2 z => ⟨rfl, ?_⟩⟩⟩
    · show _ < (sA.heap.push _).objs.size
      rw [Heap.size_push]; exact Nat.lt_succ_self _
    · show sA.gens.size < (sA.gens.push _).size
      rw [Array.size_push]; exact Nat.lt_succ_self _
    · show (sA.gens.push _)[i]? = _
      rw [gnA, Array.getElem?_push_lt hi, Array.getElem?_eq_getElem hi]
    have e0B : Env0 P w K mg base Aw outer s H := ⟨hfr, env0.mod, env0.bs, env0.bsz, env0.funs, env0.frf, env0.hok, env0.bare⟩
    have IA : Inv (gcxOf P w K mg base N qual scope f cdv Aw outer s H (fun _ _ _ => False) []) [] (start N vs) H sA := inv_startG S hrw.hd e0B len0 rr x
    have IB : Inv (gcxOf P w K mg base N qual scope f cdv Aw outer s H (fun _ _ _ => False) []) [] (start N vs) H { sA with gens := sA.gens.push (.fresh (.func body (envOfC qual scope s.heap.objs.size f cdv))), toks := tk2, heap := sA.heap.push go } :=
      IA.call' (ch := []) rfl (Un.kept fun b o e => Heap.get?_push_of_some _ e) (IA.hok.kept fun b o e => Heap.get?_push_of_some _ e) bareN fun b z => by simp at z
    have hSane : Sane ⟨P, w, K, mg, base, Aw, outer, s.heap.objs.size, sA.heap.objs.size, sA.gens.size, W', Φ, T, L⟩ ⟨N, qual, scope, f, cdv⟩ := ⟨frsLt, env0.bsz, fun x => hcl _ x⟩
    have IC := to_acx IB frsLt
    have hHa : H sA.heap.objs.size = none := IA.hok.fresh (Nat.le_refl _)
    have gdata : ∀ v, go.data ≠ .cell v := fun v q => by rw [goD] at q; cases q
    have ID : Inv (acx P w K mg base N qual scope f cdv Aw outer s.heap.objs.size s H) [(sA.heap.objs.size, go)] (start N vs) H { sA with gens := sA.gens.push (.fresh (.func body (envOfC qual scope s.heap.objs.size f cdv))), toks := tk2, heap := sA.heap.push go } :=
      IC.pins_of fun p hp => by
        rw [List.mem_singleton.mp hp]
        exact ⟨atNew, hHa, Nat.ne_of_gt ltA, fun hb => absurd (Nat.lt_of_lt_of_le (frsLt _ hb) (Nat.le_of_lt ltA)) (Nat.lt_irrefl _), gdata⟩
    have hip : Ipn ⟨P, w, K, mg, base, Aw, outer, s.heap.objs.size, sA.heap.objs.size, sA.gens.size, W', Φ, T, L⟩ [(sA.heap.objs.size, go)] :=
      ⟨fun p hp => by rw [List.mem_singleton.mp hp]; exact Nat.le_of_lt ltA, go, nm, qn, List.mem_singleton.mpr rfl, goC, goD, goS⟩
    have IE := rebase (G := ⟨P, w, K, mg, base, Aw, outer, s.heap.objs.size, sA.heap.objs.size, sA.gens.size, W', Φ, T, L⟩) (D := ⟨N, qual, scope, f, cdv⟩) hSane hip.le ID z
    obtain ⟨t, ht, hq⟩ := hbody Aw outer s.heap.objs.size sA.heap.objs.size sA.gens.size W' Φ L vs H (hrw.deeper _) (mono _ _ _ _ _ hsp fun b hb => (hW b hb).imp id fun z => IA.hok.fresh (Nat.le_trans (Nat.le_of_lt (by rw [Heap.size_push]; exact Nat.lt_succ_self _)) z)) hSane
    refine seg_func ?_
    refine ht.run [(sA.heap.objs.size, go)] L s2 _ [] _ _ id id s2 H2 s2 (start N vs) H2 (EbEnd T) ⟨over_func, rfl, rfl, rfl⟩ ⟨fun L' s₀ s₁ Hs s' fl hG hgz hs => ?_, fun L' s₀ s₁ Hs e s' hx => ?_⟩
      ⟨⟨[], rfl⟩, z.phi, Nat.le_of_lt (zz_size (D := ⟨N, qual, scope, f, cdv⟩) ID z)⟩ hip z.gz IE (hq H2 z.view z.tab)
    · cases fl with
      | next =>
        obtain ⟨σ', H', J, hL, hE, hT⟩ := hs
        subst hL
        exact seg_end (.ok (.ret .none)) ⟨.inl rfl, rfl, s₁, Hs, H', hG.phi, sr_of (D := ⟨N, qual, scope, f, cdv⟩) J hE hT⟩
      | brk => obtain ⟨_, _, _, q⟩ := hs; exact False.elim q
      | cont => obtain ⟨_, _, _, q⟩ := hs; exact False.elim q
      | ret u =>
        obtain ⟨v, σ', H', J, rv, ev, hL, hE, hT⟩ := hs
        subst ev
        subst hL
        have eu : u = Value.none := rv
        subst eu
        exact seg_end (.ok (.ret .none)) ⟨.inl rfl, rfl, s₁, Hs, H', hG.phi, sr_of (D := ⟨N, qual, scope, f, cdv⟩) J hE hT⟩
    · refine seg_wrap ?_
      rw [over_func]
      refine wpAny_mono (show wpAny (model P w) (Aw.deeper (envOfC qual scope s.heap.objs.size f cdv)) (leaving (envOfC qual scope s.heap.objs.size f cdv) e) (fun _ s'' => CX P w outer (restr s.heap.objs.size Hs) { s₁ with heap := cut s.heap.objs.size s₁.heap } (fun _ _ _ => False) e s'' ∧ ∀ p ∈ ([] : List (Addr × Obj)), s''.heap.get? p.1 = some p.2) (fun _ _ => False) s' from hx) (fun _ s'' q => ?_) fun _ s'' q => q.elim
      obtain ⟨⟨_, _, _, _, _, _, _, _, _, _, _, _, q⟩, _⟩ := q
      exact q.elim
  exact made _ _ _ _ rfl rfl rfl fun h => Heap.get?_push_size _ rfl
end FsA

set_option Elab.async false
set_option linter.all false
set_option maxRecDepth 100000
set_option maxHeartbeats 2000000
/-! a for in such a generator's body; a for over another one whose items are handed out changed -/
namespace FsA
open PySem PySem.Spec PyProof.Rows GenW L2 FsV FsE FsG Evl

section
variable {X : Cx} {pos : Pos} {n : Nat}
theorem seg_ForN {tg iter : Expr} {body : List Stmt} {A : Around} {R : GenEnd} {Y : Protocol} {s₀ s : Shared} {c : Code} {fs : List Frame} {K : Flow → Sem PySem.Fin} {J : Value → Sem PySem.Fin} {gd : Bool → Bool} {lv : List Value → List Value}
    (hs : ∀ x, foldedSetIterable iter X.env x = pure x)
    (h : wpAny (model X.prog X.w) (A.over c fs) (eval iter X.env) (fun v s1 => wpAny (model X.prog X.w) (A.over c fs) (pyIter v) (fun it s2 =>
      ∀ p, Seg (model X.prog X.w) A R Y n s₀ (.forLoop tg it body [] X.env) ((model X.prog X.w).den (.forLoop tg it body [] X.env)) (.ret (kfor X K J gd lv) none (gd false) (lv []) c p [] :: fs) s2)
      (fun x s' => Seg (model X.prog X.w) A R Y n s₀ c (J x) fs s') s1) (fun x s' => Seg (model X.prog X.w) A R Y n s₀ c (J x) fs s') s) :
    Seg (model X.prog X.w) A R Y n s₀ c ((exec (.For tg iter body [] pos) X.env).wrap K J gd lv) fs s := by
  show Seg _ _ _ _ n s₀ c (.at pos fun _ => (eval iter X.env >>= fun v => foldedSetIterable iter X.env v >>= fun x => (standAt iter.pos >>= fun _ => holding [x] (pyIter x) >>= fun it => runOwn (.forLoop tg it body [] X.env) X.env)).wrap K J gd lv) fs s
  refine seg_at ?_
  refine seg_bind_wrap (wpAny_mono h (fun v s1 h1 => ?_) fun _ _ h' => h')
  rw [hs v]
  refine seg_bind_wrap (wpAny_pure ?_)
  refine seg_at ?_
  show Seg _ _ _ _ n s₀ c ((holding [v] (pyIter v) >>= fun it => runOwn (.forLoop tg it body [] X.env) X.env).wrap K J gd lv) fs s1
  refine seg_bind_wrap (wpAny_holding (wpAny_mono h1 (fun it s2 h2 => ?_) fun _ _ h' => h'))
  exact seg_call h2
theorem seg_forTurnN {tg : Expr} {it : Value} {body : List Stmt} {A : Around} {R : GenEnd} {Y : Protocol} {s₀ s : Shared} {fs : List Frame}
    (h : wpAny (model X.prog X.w) (A.over (.forLoop tg it body [] X.env) fs) (pyNext it) (fun r s1 => match r with
      | none => Seg (model X.prog X.w) A R Y n s₀ (.forLoop tg it body [] X.env) (.pure (.again (.block [] X.env))) fs s1
      | some v => wpAny (model X.prog X.w) (A.over (.forLoop tg it body [] X.env) fs) (letOwnedTupleGo tg it v) (fun _ s2 =>
          wpAny (model X.prog X.w) (A.over (.forLoop tg it body [] X.env) fs) (assign tg X.env v) (fun _ s3 => Seg (model X.prog X.w) A R Y n s₀ (.forLoop tg it body [] X.env) ((execs body X.env).wrap (fun f => match f with
            | .next | .cont => .pure (.again (.forLoop tg it body [] X.env))
            | .brk => .pure (.done .next)
            | .ret v => .pure (.done (.ret v))) (fun e => (do noteFrame e X.env; theTreesLotGoes e : Sem Unit).wrap (fun _ => .raise e) .raise id id) id id) fs s3)
            (fun x s' => Seg (model X.prog X.w) A R Y n s₀ (.forLoop tg it body [] X.env) ((do noteFrame x X.env; theTreesLotGoes x : Sem Unit).wrap (fun _ => .raise x) .raise id id) fs s') s2)
          (fun x s' => Seg (model X.prog X.w) A R Y n s₀ (.forLoop tg it body [] X.env) ((do noteFrame x X.env; theTreesLotGoes x : Sem Unit).wrap (fun _ => .raise x) .raise id id) fs s') s1)
      (fun x s' => Seg (model X.prog X.w) A R Y n s₀ (.forLoop tg it body [] X.env) ((do noteFrame x X.env; theTreesLotGoes x : Sem Unit).wrap (fun _ => .raise x) .raise id id) fs s') s) :
    Seg (model X.prog X.w) A R Y n s₀ (.forLoop tg it body [] X.env) ((model X.prog X.w).den (.forLoop tg it body [] X.env)) fs s := by
  show Seg _ A R Y n s₀ _ ((forTurn tg it body [] X.env).onRaise (fun x => do noteFrame x X.env; theTreesLotGoes x)) fs s
  rw [Sem.onRaise_eq_wrap]
  have eJ : (fun e => ((do noteFrame e X.env; theTreesLotGoes e : Sem Unit).bind fun _ => (.raise e : Sem PySem.Fin))) = fun e => (do noteFrame e X.env; theTreesLotGoes e : Sem Unit).wrap (fun _ => .raise e) .raise id id := funext fun e => Sem.bind_eq_wrap _ _
  rw [eJ]
  show Seg _ A R Y n s₀ _ (.at tg.pos fun _ => ((pyNext it).onRaise (fun _ => standAt { tg.pos with line := 0 }) >>= fun r => _).wrap _ _ id id) fs s
  refine seg_at ?_
  refine seg_bind_wrap (wpAny_onRaise (wpAny_mono h (fun r s1 h1 => ?_) fun _ _ h' => wpAny_standAt h'))
  cases r with
  | none => exact h1
  | some v =>
    refine seg_bind_wrap (wpAny_mono h1 (fun _ s2 h2 => ?_) fun _ _ h' => h')
    refine seg_bind_wrap (wpAny_mono h2 (fun _ s3 h3 => ?_) fun _ _ h' => h')
    rw [Sem.bind_eq_wrap', Sem.wrap_wrap]
    rw [Sem.wrap_congr (execs body X.env) _ _ (K' := fun f => match f with
            | .next | .cont => .pure (.again (.forLoop tg it body [] X.env))
            | .brk => .pure (.done .next)
            | .ret v => .pure (.done (.ret v))) (H' := (fun e => (do noteFrame e X.env; theTreesLotGoes e : Sem Unit).wrap (fun _ => .raise e) .raise id id))
        (fun f => by cases f <;> rfl) (fun e => by rfl)]
    exact h3
theorem seg_forDoneN {tg : Expr} {it : Value} {body : List Stmt} {A : Around} {R : GenEnd} {Y : Protocol} {s₀ s : Shared} {c c' : Code} {fs : List Frame} {k : Result → Sem PySem.Fin} {g : Bool} {l kp : List Value} {p : Pos}
    (h : Seg (model X.prog X.w) A R Y n s₀ c (k (.ok .next)) fs s) :
    Seg (model X.prog X.w) A R Y n s₀ c' (.pure (.again (.block [] X.env))) (.ret k none g l c p kp :: fs) s := by
  refine seg_again rfl ?_
  exact seg_leaf (.ok .next) h
end

section
variable {G : Gp} {D : Df} {pos : Pos}
/-- a loop's frame: an exception that comes back to it -/
theorem fca_loop {c c' : Code} {fs : List Frame} {gd : Bool → Bool} {k : Result → Sem PySem.Fin} {l kp : List Value} {p : Pos} (g : FCa G D c fs gd) (hw : c'.weight = 0) (hu : c'.cUnits = 0) :
    FCa G D c' (.ret k none (gd false) l c p kp :: fs) id where
  over := (over_loop hw hu).trans g.over
  split := by
    show (splitAtGen fs).map _ = none
    rw [g.split]; rfl
  guard := by
    show (gd false || fs.any Frame.guarded) = false
    rw [g.gd, g.guard]; rfl
  gd := rfl
theorem sega_cameBack {ip : List (Addr × Obj)} {c : Code} {fs : List Frame} {K : Flow → Sem PySem.Fin} {J : Value → Sem PySem.Fin} {gd : Bool → Bool} {lv : List Value → List Value} {E : Eb} {L : List PyData} {s₀ s s₁ : Shared} {Hs : Hp} {e : Value}
    (g : FCa G D c fs gd) (k : FKa G D ip c fs K J E) (h : cameBackBy (model G.P G.w) (G.X D s₁ Hs).A (G.env D) (G.X D s₁ Hs).xe e s) :
    Seg (model G.P G.w) G.A (RA G) (YA G) (L.length + 1) s₀ c (((Sem.raise e : Sem Flow).onRaise (cameBack (G.env D))).wrap K J gd lv) fs s := by
  show Seg _ _ _ _ _ _ _ (((cameBack (G.env D) e).bind fun _ => (Sem.raise e : Sem Flow)).wrap K J gd lv) _ _
  rw [Sem.bind_eq_wrap, Sem.wrap_wrap]
  refine seg_wrap ?_
  rw [g.over]
  exact wpAny_mono h (fun _ s' hx => k.exc L s₀ s₁ Hs e s' hx) fun x s' hx => k.exc L s₀ s₁ Hs x s' hx
theorem sega_left {tg : Expr} {it : Value} {body : List Stmt} {ip : List (Addr × Obj)} {c : Code} {fs : List Frame} {K : Flow → Sem PySem.Fin} {J : Value → Sem PySem.Fin} {gd : Bool → Bool} {lv : List Value → List Value} {E : Eb} {p : Pos}
    (hp : ∀ s H, PassesOwn (model G.P G.w) (G.X D s H).A (G.env D) (G.X D s H).xe) (g : FCa G D c fs gd) (k : FKa G D ip c fs K J E) (L : List PyData) (s₀ s₁ : Shared) (Hs : Hp) (x : Value) (s' : Shared) (hx : (G.X D s₁ Hs).xe x s') :
    Seg (model G.P G.w) G.A (RA G) (YA G) (L.length + 1) s₀ (.forLoop tg it body [] (G.env D)) ((do noteFrame x (G.env D); theTreesLotGoes x : Sem Unit).wrap (fun _ => .raise x) .raise id id) (.ret (kfor (G.X D s₁ Hs) K J gd lv) none (gd false) (lv []) c p [] :: fs) s' := by
  have gl := fca_loop (k := kfor (G.X D s₁ Hs) K J gd lv) (c' := .forLoop tg it body [] (G.env D)) (l := lv []) (kp := []) (p := p) g rfl rfl
  refine seg_wrap ?_
  rw [gl.over]
  refine wpAny_bind (wpAny_mono (hp s₁ Hs x s' hx) (fun _ s'' hcb => wpAny_theTreesLotGoes ?_) fun y s'' hcb => ?_)
  · exact seg_leaf (.error x) (sega_cameBack g k hcb)
  · exact seg_leaf (.error y) (sega_cameBack g k hcb)

/-- a for over a list that the body leaves as it is -/
theorem gfa_for {tg iter : Expr} {body : List Stmt} {wi : TI} {g : TG} {tb : TFa} (hp : ∀ s H, PassesOwn (model G.P G.w) (G.X D s H).A (G.env D) (G.X D s H).xe) (hi : ∀ s H, PI (G.X D s H) tg iter wi) (hg : ∀ s H, PG (G.X D s H) tg g) (hb : GFas G D body tb)
    (hs : ∀ x, foldedSetIterable iter (G.env D) x = pure x := by intro _; rfl) :
    GFa G D (.For tg iter body [] pos) (fun E L Hs σ H => wi σ H fun J H1 => ∃ W : Nat → Nat → List PyData → Hp → L2.St → Hp → Prop, (∃ m, W 0 m L Hs σ H1) ∧ ∀ i m L Hs σ H, W i m L Hs σ H →
      (J.stop i H ∧ E.nx L Hs σ H) ∨ (J.go i H ∧ ∃ N : List PyData → Hp → L2.St → Hp → Prop, (∀ L' Hs' σ' H', N L' Hs' σ' H' → ∃ m', m' < m ∧ W (i + 1) m' L' Hs' σ' H') ∧ ∀ x H', J.yld i H x H' → g x σ H' fun σ2 H2 => tb { E with nx := N, ct := N, bk := E.nx } L Hs σ2 H2)) := by
  refine ⟨fun ip L s₀ c fs K J gd lv s₁ Hs s σ H E g0 k hG hI hgz I ht => ?_⟩
  refine seg_ForN (X := G.X D s₁ Hs) hs ?_
  rw [g0.over]
  refine wpAny_gsz (n := G.g + 1) hgz (wpAny_mono ((hi s₁ Hs).run ip s σ H _ I ht) (fun v s1 h1 hz1 => wpAny_gsz (n := G.g + 1) hz1 (wpAny_mono h1 (fun itv s2 h2 hz2 => ?_) fun x s' hx _ => k.exc L s₀ s₁ Hs x s' hx)) fun x s' hx _ => k.exc L s₀ s₁ Hs x s' hx)
  obtain ⟨it, fp, tn, Jt, H2, e, I2, T, st2, f2, W, ⟨m0, w0⟩, turn⟩ := h2
  subst e
  intro p
  have nof : ∀ b ∈ fp, G.n ≤ b := fun b hb => by
    obtain ⟨_, _, _, h4, _⟩ := f2 b hb
    rcases h4 with h4 | h4
    · exact absurd (show b ∈ ([] : List Addr) from h4) (by simp)
    · have h4' : (cut G.n s₁.heap).objs.size ≤ b := h4
      rw [cut_size] at h4'
      have := hG.sz
      omega
  have stat : ∀ {s₁' : Shared} {Hs' H' : Hp}, (∀ b ∈ fp, H' b = none) → ∀ b ∈ fp, FpOk (G.X D s₁' Hs') ip H' b := fun {s₁' Hs' H'} hn b hb => by
    obtain ⟨_, h2, h3, _, h5, h6⟩ := f2 b hb
    refine ⟨hn b hb, h2, h3, .inr ?_, h5, h6⟩
    show (cut G.n s₁'.heap).objs.size ≤ b
    rw [cut_size]
    exact Nat.le_trans (Nat.min_le_left _ _) (nof b hb)
  have gl := fca_loop (k := kfor (G.X D s₁ Hs) K J gd lv) (c' := .forLoop tg (.ref it) body [] (G.env D)) (l := lv []) (kp := []) (p := p) g0 rfl rfl
  have ee := fun L s₀ s₁' Hs' x s' hx => sega_left (tg := tg) (it := .ref it) (body := body) (lv := lv) (p := p) hp g0 k L s₀ s₁' Hs' x s' hx
  have loop : ∀ (m i : Nat) (L : List PyData) (s₀ s₁ : Shared) (Hs : Hp) (s : Shared) (σ : L2.St) (H : Hp), Good G L s₁ Hs → G.g < s.gens.size → Inv (G.X D s₁ Hs) ip σ H s → tn i s.heap → (∀ b ∈ fp, H b = none) → W i m L Hs σ H →
      Seg (model G.P G.w) G.A (RA G) (YA G) (L.length + 1) s₀ (.forLoop tg (.ref it) body [] (G.env D)) ((model G.P G.w).den (.forLoop tg (.ref it) body [] (G.env D))) (.ret (kfor (G.X D s₁ Hs) K J gd lv) none (gd false) (lv []) c p [] :: fs) s := by
    intro m
    induction m using Nat.strongRecOn with
    | ind m ih =>
      intro i L s₀ s₁ Hs s3 σ3 H3 hG3 hz3 I3 st3 fr3 w3
      refine seg_forTurnN (X := G.X D s₁ Hs) ?_
      rw [gl.over]
      rcases turn i m L Hs σ3 H3 w3 with ⟨stop, qn⟩ | ⟨go, N, hN, step⟩
      · refine wpAny_gsz (n := G.g + 1) hz3 (wpAny_mono (T.done (G.X D s₁ Hs) rfl rfl rfl rfl i ip s3 σ3 H3 (G.X D s₁ Hs).xe I3 (stat fr3) st3 stop) (fun r s4 h4 hz4 => ?_) fun x s' hx _ => ee L s₀ s₁ Hs x s' hx)
        obtain ⟨hr, I4⟩ := h4
        subst hr
        exact seg_forDoneN (X := G.X D s₁ Hs) (tg := tg) (it := .ref it) (body := body) (k.ok L s₀ s₁ Hs s4 .next hG3 hz4 ⟨σ3, H3, I4, qn⟩)
      · refine wpAny_gsz (n := G.g + 1) hz3 (wpAny_mono (T.item (G.X D s₁ Hs) rfl rfl rfl rfl i ip s3 σ3 H3 (G.X D s₁ Hs).xe I3 (stat fr3) st3 go) (fun r s4 h4 hz4 => ?_) fun x s' hx _ => ee L s₀ s₁ Hs x s' hx)
        obtain ⟨u, hr, h4⟩ := h4
        subst hr
        refine wpAny_gsz (n := G.g + 1) hz4 (wpAny_mono h4 (fun _ s5 h5 hz5 => ?_) fun x s' hx _ => ee L s₀ s₁ Hs x s' hx)
        obtain ⟨x, H5, I5, r5, y5, st5, fr5⟩ := h5
        have I5' := I5.pinned (stat fr5) (T.obj _ _ st5)
        refine wpAny_gsz (n := G.g + 1) hz5 (wpAny_mono ((hg s₁ Hs).run _ s5 σ3 H5 x u _ I5' r5 (step x H5 y5)) (fun _ s6 h6 hz6 => ?_) fun x s' hx _ => ee L s₀ s₁ Hs x s' hx)
        obtain ⟨σ6, H6, I6, q6⟩ := h6
        have more : Ipn G (ip ++ pinsAt fp s5.heap) := hI.more fun q hq => nof q.1 (of_pinsAt hq).1
        have again : ∀ {L7 : List PyData} {s₁' : Shared} {Hs' : Hp} {s7 : Shared} {σ7 : L2.St} {H7 : Hp} (s₀' : Shared), Good G L7 s₁' Hs' → G.g < s7.gens.size → Inv (G.X D s₁' Hs') (ip ++ pinsAt fp s5.heap) σ7 H7 s7 → N L7 Hs' σ7 H7 →
            Seg (model G.P G.w) G.A (RA G) (YA G) (L7.length + 1) s₀' (.forLoop tg (.ref it) body [] (G.env D)) (.pure (.again (.forLoop tg (.ref it) body [] (G.env D)))) (.ret (kfor (G.X D s₁' Hs') K J gd lv) none (gd false) (lv []) c p [] :: fs) s7 := fun {L7 s₁' Hs' s7 σ7 H7} s₀' hG7 hz7 I7 n7 => by
          obtain ⟨m', hm, w7⟩ := hN L7 Hs' σ7 H7 n7
          refine seg_again rfl (ih m' hm (i + 1) L7 s₀' s₁' Hs' s7 σ7 H7 hG7 hz7 I7.unpinned (T.keep _ _ _ st5 fun b hb o e => (I7.pin (b, o) (List.mem_append_right _ (List.mem_append_right _ (mem_pinsAt hb e)))).1) (fun b hb => ?_) w7)
          obtain ⟨o, e, d⟩ := T.obj _ _ st5 b hb
          exact (I7.pin (b, o) (List.mem_append_right _ (List.mem_append_right _ (mem_pinsAt hb e)))).2.1
        refine hb.run (ip ++ pinsAt fp s5.heap) L s₀ _ _ _ _ id id s₁ Hs s6 σ6 H6 { E with nx := N, ct := N, bk := E.nx } gl ⟨fun L7 s₀' s₁' Hs' s7 f hG7 hz7 q7 => ?_, fun L' s₀' s₁' Hs' x s' hx => ee L' s₀' s₁' Hs' x s' hx⟩ hG3 more hz6 I6 q6
        cases f with
        | next => obtain ⟨σ7, H7, I7, n7⟩ := q7; exact again (s₁' := s₁') (Hs' := Hs') s₀' hG7 hz7 I7 n7
        | cont => obtain ⟨σ7, H7, I7, n7⟩ := q7; exact again (s₁' := s₁') (Hs' := Hs') s₀' hG7 hz7 I7 n7
        | brk => obtain ⟨σ7, H7, I7, n7⟩ := q7; exact seg_leaf (.ok .next) (k.ok L7 s₀' s₁' Hs' s7 .next hG7 hz7 ⟨σ7, H7, I7.unpinned, n7⟩)
        | ret v => obtain ⟨x7, σ7, H7, I7, r7, n7⟩ := q7; exact seg_leaf (.ok (.ret v)) (k.ok L7 s₀' s₁' Hs' s7 (.ret v) hG7 hz7 ⟨x7, σ7, H7, I7.unpinned, r7, n7⟩)
  exact loop m0 0 L s₀ s₁ Hs s2 σ H2 hG hz2 I2 st2 (fun b hb => (f2 b hb).1) w0
/-- the walk over a list that stays -/
theorem gwalkA {K : PySem.W.Frag} {a : Addr} {xs : List V} {g : TG} {tb : TFa} {E : Eb} {L : List PyData} {Hs : Hp} {σ : L2.St} {H : Hp} (Pv : Nat → List PyData → Hp → L2.St → Hp → Prop) (first : Pv 0 L Hs σ H) (same : ∀ i L Hs σ H, Pv i L Hs σ H → SqL K H a xs)
    (turn : ∀ i x L Hs σ H, xs[i]? = some x → Pv i L Hs σ H → g x σ H fun σ2 H2 => tb { E with nx := Pv (i + 1), ct := Pv (i + 1), bk := E.nx } L Hs σ2 H2) (last : ∀ L Hs σ H, Pv xs.length L Hs σ H → E.nx L Hs σ H) :
    ∃ W : Nat → Nat → List PyData → Hp → L2.St → Hp → Prop, (∃ m, W 0 m L Hs σ H) ∧ ∀ i m L Hs σ H, W i m L Hs σ H →
      ((Itl K a).stop i H ∧ E.nx L Hs σ H) ∨ ((Itl K a).go i H ∧ ∃ N : List PyData → Hp → L2.St → Hp → Prop, (∀ L' Hs' σ' H', N L' Hs' σ' H' → ∃ m', m' < m ∧ W (i + 1) m' L' Hs' σ' H') ∧ ∀ x H', (Itl K a).yld i H x H' → g x σ H' fun σ2 H2 => tb { E with nx := N, ct := N, bk := E.nx } L Hs σ2 H2) := by
  refine ⟨fun i m L Hs σ H => m + i = xs.length ∧ Pv i L Hs σ H, ⟨xs.length, by omega, first⟩, fun i m L Hs σ H ⟨hm, pv⟩ => ?_⟩
  have hs := same i L Hs σ H pv
  cases m with
  | zero =>
    obtain rfl : i = xs.length := by omega
    exact .inl ⟨⟨xs, hs, Nat.le_refl _⟩, last L Hs σ H pv⟩
  | succ m =>
    have hi : i < xs.length := by omega
    refine .inr ⟨⟨xs, xs[i], hs, List.getElem?_eq_getElem hi⟩, Pv (i + 1), fun L' Hs' σ' H' pv' => ⟨m, Nat.lt_succ_self m, by omega, pv'⟩, fun x H' ⟨eH, hx⟩ => ?_⟩
    subst eH
    exact turn i x L Hs σ _ (hx xs hs) pv
end
end FsA

set_option Elab.async false
set_option linter.all false
set_option maxRecDepth 100000
set_option maxHeartbeats 2000000
/-! what is run while such a generator sleeps: the table of generators stays -/
namespace FsA
open PySem PySem.Spec PyProof.Rows GenW L2 FsV FsE FsG Evl

structure PEk (X : Cx) (e : Expr) (t : TE) : Prop where
  run : ∀ (pins : List (Addr × Obj)) (s : Shared) (σ : L2.St) (H : Hp) (Q : VK), Inv X pins σ H s → t σ H Q → wpAny (model X.prog X.w) X.A (eval e X.env) (fun v s' => EP X pins σ Q v s' ∧ s'.gens = s.gens) X.xe s
structure PAk (X : Cx) (es : List Expr) (t : TA) : Prop where
  run : ∀ (pos : Pos) (pins : List (Addr × Obj)) (s : Shared) (σ : L2.St) (H : Hp) (Q : List V → Hp → Prop), Inv X pins σ H s → t σ H Q → wpAny (model X.prog X.w) X.A (spliced (backTo pos (starEach es X.env))) (fun us s' => AP X pins σ Q us s' ∧ s'.gens = s.gens) X.xe s
structure PTk (X : Cx) (e : Expr) (t : TT) : Prop where
  run : ∀ (pins : List (Addr × Obj)) (s : Shared) (σ : L2.St) (H : Hp) (Q : Bool → Hp → Prop), Inv X pins σ H s → t σ H Q → wpAny (model X.prog X.w) X.A (isTrue e X.env (eval e X.env)) (fun b s' => TP X pins σ Q b s' ∧ s'.gens = s.gens) X.xe s
structure PSk (X : Cx) (st : Stmt) (t : TS) : Prop where
  run : ∀ (pins : List (Addr × Obj)) (s : Shared) (σ : L2.St) (H : Hp) (D : Ends), Inv X pins σ H s → t D σ H → wpAny (model X.prog X.w) X.A (exec st X.env) (fun f s' => SP X pins D f s' ∧ s'.gens = s.gens) X.xe s
structure PSsk (X : Cx) (st : List Stmt) (t : TS) : Prop where
  run : ∀ (pins : List (Addr × Obj)) (s : Shared) (σ : L2.St) (H : Hp) (D : Ends), Inv X pins σ H s → t D σ H → wpAny (model X.prog X.w) X.A (execs st X.env) (fun f s' => SP X pins D f s' ∧ s'.gens = s.gens) X.xe s
structure PGk (X : Cx) (target : Expr) (t : TG) : Prop where
  run : ∀ (pins : List (Addr × Obj)) (s : Shared) (σ : L2.St) (H : Hp) (v : V) (u : Value) (Q : L2.St → Hp → Prop), Inv X pins σ H s → RelV v u → t v σ H Q →
    wpAny (model X.prog X.w) X.A (assign target X.env u) (fun _ s' => (∃ σ' H', Inv X pins σ' H' s' ∧ Q σ' H') ∧ s'.gens = s.gens) X.xe s

section
variable {X : Cx} {pos : Pos} {e : Expr} {es : List Expr} {te : TE} {t : TA} {st : Stmt} {rest : List Stmt}
theorem pek_var {i : Nat} {x : Str} {pos : Pos} (hN : X.N[i]? = some x) (hv : Vis X.env.scope x) (hd : (x == ("__debug__" : Str)) = false := by decide) (hcd : (x == ("__classdict__" : Str)) = false := by decide) : PEk X (.Name x pos) (tVar i) := by
  refine ⟨fun pins s σ H Q I h => ?_⟩
  obtain ⟨v, e, h⟩ := h
  obtain ⟨m, hn, hl⟩ := I.loc
  obtain ⟨u, r, l⟩ := hl i x v hN e hv
  have fin : EP X pins σ Q u s ∧ s.gens = s.gens := ⟨⟨v, H, I, r, h⟩, rfl⟩
  rcases l with ⟨hk, hm⟩ | ⟨hk, c, hc, hcell⟩
  · exact wpAny_Name (wpAny_loadName_local I.ok.kind hk hn hm fin) hd
  · rcases hk with hk | hk
    · exact wpAny_Name (wpAny_loadName_cell I.ok.kind hk hc hcell fin) hd
    · exact wpAny_Name (wpAny_loadName_free I.ok.kind hk hc hcell fin hcd) hd
theorem pkv (i : Nat) {x : Str} {pos : Pos} (hN : X.N[i]? = some x := by rfl) (hv : Vis X.env.scope x := by first | exact Or.inl rfl | exact Or.inr (Or.inl rfl)) (hd : (x == ("__debug__" : Str)) = false := by decide) (hcd : (x == ("__classdict__" : Str)) = false := by decide) : PEk X (.Name x pos) (tVar i) := pek_var hN hv hd hcd
theorem pak_nil : PAk X [] tNil := by
  refine ⟨fun pos pins s σ H Q I h => ?_⟩
  exact Calls.spliced_nil ⟨⟨[], H, I, .nil, h⟩, rfl⟩
theorem pak_cons (ha : PEk X e te) (hr : PAk X es t) (hs : starEach (e :: es) X.env = (false, eval e X.env) :: starEach es X.env := by rfl) : PAk X (e :: es) (tCons te t) := by
  refine ⟨fun pos pins s σ H Q I h => ?_⟩
  rw [hs]
  show wpAny _ _ (spliced ((false, eval e X.env) :: backTo pos (starEach es X.env))) _ _ s
  refine Calls.spliced_cons (thn (ha.run pins s σ H _ I h) fun u s1 ⟨⟨x, H1, I1, r1, q1⟩, g1⟩ => ?_)
  exact thn (hr.run pos pins s1 σ H1 _ I1 q1) fun us s2 ⟨⟨xs, H2, I2, r2, q2⟩, g2⟩ => ⟨⟨x :: xs, H2, I2, .cons r1 r2, q2⟩, g2.trans g1⟩
theorem pek_tup {x1} (h : PAk X es t) : PEk X (.Tuple es x1 pos) (tTup t) := by
  refine ⟨fun pins s σ H Q I hq => ?_⟩
  refine wpAny_Tuple_spliced (thn (h.run pos pins s σ H _ I hq) fun us s1 ⟨⟨xs, H1, I1, r, z, q⟩, g1⟩ => ⟨by rw [← r.length]; exact z, ?_⟩)
  have hf : H1 s1.heap.objs.size = none := I1.hok.fresh (Nat.le_refl _)
  refine ⟨⟨.ref s1.heap.objs.size, upd H1 s1.heap.objs.size (.tup xs), I1.laid (t' := s1.toks) (fun b u e => Heap.get?_push_of_some _ e) (Nat.le_refl _) ?_, rfl, q _ hf⟩, g1⟩
  exact ⟨z, us, r, ⟨_, Heap.get?_push_size _ rfl, rfl, _, rfl⟩⟩
/-- t + u -/
theorem pek_cat {a b : Expr} {ta tb : TE} (ha : PEk X a ta) (hb : PEk X b tb) : PEk X (.BinOp a .Add b pos) (tOp (rCatA X.K) ta tb) := by
  refine ⟨fun pins s σ H Q I h => ?_⟩
  refine wpAny_BinOp ?_
  refine thn (ha.run pins s σ H _ I h) fun v s1 ⟨⟨x, H1, I1, r1, q1⟩, g1⟩ => ?_
  refine thn (hb.run pins s1 σ H1 _ I1 q1) fun u s2 ⟨⟨y, H2, I2, r2, q2⟩, g2⟩ => ?_
  have g := g2.trans g1
  obtain ⟨a, b, xs, ys, rfl, rfl, ha, hb, hz, k0, k1, k2⟩ := q2
  cases r1
  cases r2
  obtain ⟨its, p1, p2, _⟩ := I2.tuple ha
  obtain ⟨its2, p3, p4, _⟩ := I2.tuple hb
  by_cases hx : xs = []
  · subst hx
    cases p1
    exact L2.cat_tup0 p2 p4 ⟨⟨.ref b, H2, I2, rfl, k0 rfl⟩, g⟩
  · refine HT.cat_tup p2 p4 (fun z => hx (p1.nil_iff.mp z)) (fun z => ⟨⟨.ref a, H2, I2, rfl, k1 hx (p3.nil_iff.mp z)⟩, g⟩) (fun z => ?_) (by rw [← p1.length, ← p3.length]; exact hz)
    refine ⟨⟨.ref s2.heap.objs.size, _, I2.laid (t' := s2.toks) (o := .tup (xs ++ ys)) (fun b ob q => Heap.get?_push_of_some _ q) (Nat.le_refl _) ?_, rfl, k2 hx (fun w => z (p3.nil_iff.mpr w)) _ (I2.hok.fresh (Nat.le_refl _))⟩, g⟩
    exact ⟨by rw [List.length_append]; exact hz, _, p1.append p3, IsTup.new _ _⟩
theorem pek_ty {p : Pos} {x : Str} {T : String} (hg : Gl X x) (hm : X.mg x = none) (hv : bootBuiltins x = some (.type T)) (hn : x ≠ "__name__" := by decide) (hdb : (x == ("__debug__" : Str)) = false := by decide) : PEk X (.Name x p) (tC (.ty T)) := by
  refine ⟨fun pins s σ H Q I h => ?_⟩
  exact ld_blt I hg hm hv ⟨⟨.ty T, H, I, rfl, h⟩, rfl⟩ hn hdb
/-- isinstance(x, tuple) of a tuple -/
theorem pek_isT {p : Pos} {a b : Expr} {t : TA} (hg : Gl X "isinstance") (hm : X.mg "isinstance" = none) (ha : PAk X [a, b] t)
    (he : starEach [a, b] X.env = (false, eval a X.env) :: starEach [b] X.env := by rfl) (hpl : (backTo pos (starEach [b] X.env)).any (·.1) = false := by rfl) (hk : PySem.W.kitOne X.K (.type "tuple") (.type "tuple") = some true := by rfl) :
    PEk X (.Call (.Name "isinstance" p) [a, b] [] pos) (fun σ H Q => t σ H fun vs H1 => ∃ l xs, vs = [.ref l, .ty "tuple"] ∧ H1 l = some (.tup xs) ∧ Q (.bl true) H1) := by
  refine ⟨fun pins s σ H Q I h => ?_⟩
  refine wpAny_Call_Name_kw (ld_blt I hg hm PyProof.Rows.boot_isinstance ?_ (by decide) (by decide))
  refine PyProof.Rows.callWith_builtin1 (thn (ha.run pos pins s σ H _ I h) fun us s1 ⟨⟨vs, H1, I1, r1, l, xs, e, hl, q1⟩, g1⟩ => ?_) he hpl
  subst e
  obtain ⟨u, u2, rfl, ru, ru2⟩ := vals2 r1
  obtain rfl : u2 = Value.type "tuple" := ru2
  exact isinst_ok I1 ru (.tup hl) hk fun tk => ⟨⟨.bl true, H1, I1.tok _, rfl, q1⟩, g1⟩
theorem ptk_val {t : TE} (h : PEk X e t) (he : ∀ whole, isTrue e X.env whole = (do let v ← whole; standAt e.pos; holding [v] (truthy v)) := by intro _; rfl) : PTk X e (tB t) := by
  refine ⟨fun pins s σ H Q I hw => ?_⟩
  refine isTrue_plain (thn (h.run pins s σ H _ I hw) fun v s1 ⟨⟨x, H1, I1, r1, q1⟩, g1⟩ => ?_) (he _)
  obtain ⟨d, rfl, q⟩ := q1
  cases r1
  exact wpAny_truthy_bool ⟨⟨H1, I1, q⟩, g1⟩
theorem ptk_not {a : Expr} {tA : TT} (ha : PTk X a tA) : PTk X (.UnaryOp .Not a pos) (tNot tA) := by
  refine ⟨fun pins s σ H Q I h => ?_⟩
  exact isTrue_not (ha.run pins s σ H (fun c H1 => Q (!c) H1) I h)
theorem pssk_nil : PSsk X [] tNext := ⟨fun _ _ σ H _ I h => wpAny_execs_nil ⟨⟨σ, H, I, h⟩, rfl⟩⟩
theorem pssk_never : PSsk X rest tNever := ⟨fun _ _ _ _ _ _ h => h.elim⟩
theorem pssk_cons {t u : TS} (h1 : PSk X st t) (h2 : PSsk X rest u) : PSsk X (st :: rest) (tSeq t u) := by
  refine ⟨fun pins s σ H D I h => ?_⟩
  refine wpAny_execs_cons (thn (h1.run pins s σ H { D with nx := u D } I h) fun f s1 ⟨q, g1⟩ => ?_)
  cases f with
  | next =>
    obtain ⟨σ', H', I', q⟩ := q
    exact thn (h2.run pins s1 σ' H' D I' q) fun f s2 ⟨q2, g2⟩ => ⟨q2, g2.trans g1⟩
  | ret v => exact ⟨q, g1⟩
  | brk => exact ⟨q, g1⟩
  | cont => exact ⟨q, g1⟩
theorem psk_if {c : Expr} {a b : List Stmt} {tc : TT} {t u : TS} (hc : PTk X c tc) (ha : PSsk X a t) (hb : PSsk X b u) : PSk X (.If c a b pos) (tIfS tc t u) := by
  refine ⟨fun pins s σ H D I h => ?_⟩
  refine wpAny_If (thn (hc.run pins s σ H _ I h) fun d s1 ⟨⟨H1, I1, q1⟩, g1⟩ => ?_)
  cases d with
  | true => exact thn (ha.run pins s1 σ H1 D I1 q1) fun f s2 ⟨q2, g2⟩ => ⟨q2, g2.trans g1⟩
  | false => exact thn (hb.run pins s1 σ H1 D I1 q1) fun f s2 ⟨q2, g2⟩ => ⟨q2, g2.trans g1⟩
theorem psk_expr (he : PEk X e te) (hs : swapsWith e none pos.line X.env = pure false := by rfl) : PSk X (.Expr e pos) (tDrop te) := by
  refine ⟨fun pins s σ H D I h => ?_⟩
  exact wpAny_Expr_any (thn (he.run pins s σ H _ I h) fun v s1 ⟨⟨x, H1, I1, r1, q1⟩, g1⟩ => ⟨⟨σ, H1, I1, q1⟩, g1⟩) I.quiet hs
/-- l.append(x) -/
theorem pek_append {o : Expr} {to : TE} {apos cpos : Pos} (ho : PEk X o to) (ha : PAk X (e :: es) t)
    (hbase : attributeBase o "append" X.env (eval o X.env) = eval o X.env := by rfl)
    (hfew : ((backTo cpos (starEach (e :: es) X.env)).all (fun x => !x.1) && (backToKw cpos (keywordEach [] X.env)).all (fun x => x.1.isSome)
      && decide ((e :: es).length + ([] : List Keyword).length + (if ([] : List Keyword).isEmpty then 0 else 1) < 30)) = true := by rfl)
    (hline : (apos.endLine == cpos.line) = true := by rfl) (hs : starEach (e :: es) X.env = (false, eval e X.env) :: starEach es X.env := by rfl) (hplain : (backTo cpos (starEach es X.env)).any (·.1) = false := by rfl) :
    PEk X (.Call (.Attribute o "append" apos) (e :: es) [] cpos) (fun σ H Q => to σ H fun x H1 => ∃ l xs, x = .ref l ∧ H1 l = some (.lst xs) ∧ t σ H1 fun vs H2 => rAppend x vs H2 Q) := by
  refine ⟨fun pins s σ H Q I h => ?_⟩
  refine wpAny_Call_method_late hbase hfew hline rfl (thn (ho.run pins s σ H _ I h) fun v s1 ⟨⟨x, H1, I1, r1, l, xs, ex, hl, q1⟩, g1⟩ => ?_)
  subst ex
  cases r1
  obtain ⟨_, its, n, _, e0⟩ := I1.hok l _ hl
  refine ⟨"list", "list.append", PySem.F.plainAttrs_list, PySem.F.slot_list_append, PySem.F.type_list_append, ⟨_, e0, rfl⟩, (fun b hb => by cases hb; exact ⟨_, e0, rfl⟩), ?_⟩
  have hA := ha.run cpos pins s1 σ H1 _ I1 q1
  rw [hs] at hA ⊢
  refine Calls.callWith_builtin (by show (false || (backTo cpos (starEach es X.env)).any (·.1)) = false; rw [hplain] <;> rfl) (Calls.evalArgs_plain ?_)
  refine thn hA fun us s2 ⟨⟨vs, H2, I2, r2, q2⟩, g2⟩ => ?_
  obtain ⟨l', xs', y, z1, rfl, hH, hz, q⟩ := q2
  cases z1
  obtain ⟨u, rfl, ru⟩ := r2.one
  obtain ⟨z, its', n', r, hl', e'⟩ := I2.lstM hH
  refine call_meets F.slot_list_append ⟨_, e', rfl⟩ F.entry_list_append (F.args_list_append_2 _ _) (PySem.list_append l its'.toArray n' u (by rw [List.size_toArray]; omega)) ⟨e', ?_⟩
  refine ⟨⟨.non, _, I2.lset (its' := its' ++ [u]) hH e' (by simp) (r.append (.cons ru .nil)) ?_, rfl, q⟩, g2.trans g1⟩
  rw [List.length_append, List.length_singleton]
  omega
/-- a local name -/
theorem inv_set {i : Nat} {x : Str} {v : V} {u : Value} {m : Str → Option Value} {h2 : Heap} {pins : List (Addr × Obj)} {σ : L2.St} {H : Hp} {s : Shared} {k : Nat} (I : Inv X pins σ H s) (nd : X.N.Nodup) (hi : X.N[i]? = some x) (kd : X.env.kindOf x = some .local) (r : RelV v u)
    (hm0 : s.heap.Ns X.env.locals m) (hl : ∀ (j : Nat) (y : Str) (v' : V), X.N[j]? = some y → σ[j]? = some (some v') → Vis X.env.scope y → ∃ u', RelV v' u' ∧ Look X.env s.heap m y u')
    (hm2 : h2.Ns X.env.locals (fun y => if y = x then some u else m y)) (but : Heap.SameBut X.env.locals s.heap h2) : Inv X pins (σ.set i (some v)) H { s with heap := h2, toks := k } := by
  have old : ∀ {b : Addr} {ob : Obj}, X.s_0.heap.get? b = some ob → h2.get? b = s.heap.get? b := fun {b ob} q => but.2 b (Nat.ne_of_lt (Nat.lt_of_lt_of_le (Heap.lt_size q) I.ok.above))
  have cn := I.cne
  have oth : ∀ b, b ≠ X.env.locals → h2.get? b = s.heap.get? b := fun b hb => but.2 b hb
  have trk : ∀ b u', H b = some u' → b ≠ X.env.locals := fun b u' q z => by rw [z, I.free] at q; cases q
  refine ⟨I.ok, I.os, I.bare, ⟨fun b ob q a1 a2 a3 => by rw [old q]; exact I.base.keep b ob q a1 a2 a3, fun b ob q a1 a2 a3 => by
      rw [old q]
      exact I.base.slot b ob q a1 a2 a3, I.base.free, fun b ob q a1 => by rw [old q]; exact I.base.there b ob q a1, I.base.tups, I.base.frzs, I.base.tbls⟩, ⟨_, hm2, fun j y v' a1 a2 a3 => ?_⟩, fun y c q => ?_, I.free, I.freeC, fun p hp => ?_, fun b ob q => ?_, ?_⟩
  · by_cases hj : j = i
    · subst hj
      obtain rfl : x = y := Option.some.inj (hi.symm.trans a1)
      have hlen : j < σ.length := by rw [I.len]; exact (List.getElem?_eq_some_iff.mp hi).1
      rw [List.getElem?_set_self hlen] at a2
      obtain rfl : v = v' := Option.some.inj (Option.some.inj a2)
      exact ⟨u, r, .inl ⟨kd, if_pos rfl⟩⟩
    · rw [List.getElem?_set_ne fun z => hj z.symm] at a2
      obtain ⟨u', r', lk⟩ := hl j y v' a1 a2 a3
      have hyx : y ≠ x := fun z => hj (nodup_ix nd a1 (z ▸ hi))
      refine ⟨u', r', lk.elim (fun ⟨k1, k2⟩ => .inl ⟨k1, (if_neg hyx).trans k2⟩) fun ⟨k1, c, k2, k3⟩ => .inr ⟨k1, c, k2, k3.sameBut but (cn y c k2)⟩⟩
  · exact let ⟨w1, w2⟩ := I.cell y c q; ⟨w1, w2.sameBut but (cn y c q)⟩
  · obtain ⟨a1, a2, a3, a4⟩ := I.pin p hp
    exact ⟨(oth p.1 a3).trans a1, a2, a3, a4⟩
  · refine (I.hok b ob q).stay (fun c w2 hc w3 => (oth c ?_).trans w3) (fun _ z => z) fun _ _ z => z
    rcases hc with rfl | hc
    · exact trk _ _ q
    · exact trk _ _ hc
  · rw [List.length_set]; exact I.len
theorem pgk_name {i : Nat} {x : Str} (hN : X.N.Nodup) (hi : X.N[i]? = some x) (hk : X.env.kindOf x = some .local := by rfl) : PGk X (.Name x pos) (gName i) := by
  refine ⟨fun pins s σ H v u Q I r h => ?_⟩
  obtain ⟨m, hm, hl⟩ := I.loc
  have hc : (X.env.scope.kind == .class || (X.env.scope.kind == .module && X.env.locals != X.env.globals)) = false := by rw [I.ok.kind] <;> rfl
  exact wpAny_assign_Name (wpAny_storeName_local hk hm (fun h2 hm2 but => ⟨⟨_, H, inv_set I hN hi hk r hm hl hm2 but, h⟩, rfl⟩) hc)
end
end FsA

set_option Elab.async false
set_option linter.all false
set_option maxRecDepth 100000
set_option maxHeartbeats 2000000
/-! a for over such a generator: in another one's body, and in a def's -/
namespace FsA
open PySem PySem.Spec PyProof.Rows GenW L2 FsV FsE FsG Evl

/-! ### all that is young and not tracked, as pins -/
def keepers (n : Nat) (H : Hp) (h : Heap) : List (Addr × Obj) := (List.range h.objs.size).filterMap fun b => if n ≤ b ∧ (H b).isNone = true then (match h.get? b with
  | some o => (match o.data with
    | .cell _ => none
    | _ => some (b, o))
  | none => none) else none
theorem of_keepers {n : Nat} {H : Hp} {h : Heap} {p : Addr × Obj} (hp : p ∈ keepers n H h) : n ≤ p.1 ∧ H p.1 = none ∧ h.get? p.1 = some p.2 ∧ ∀ v, p.2.data ≠ .cell v := by
  obtain ⟨b, _, e⟩ := List.mem_filterMap.mp hp
  split at e
  · rename_i c
    split at e
    · rename_i o q
      split at e
      · cases e
      · rename_i nc
        cases e
        exact ⟨c.1, Option.isNone_iff_eq_none.mp c.2, q, fun v z => nc v z⟩
    · cases e
  · cases e
theorem mem_keepers {n : Nat} {H : Hp} {h : Heap} {b : Addr} {o : Obj} (h1 : n ≤ b) (h2 : H b = none) (h3 : h.get? b = some o) (h4 : ∀ v, o.data ≠ .cell v) : (b, o) ∈ keepers n H h := by
  refine List.mem_filterMap.mpr ⟨b, List.mem_range.mpr (Heap.lt_size h3), ?_⟩
  rw [if_pos ⟨h1, by rw [h2]; rfl⟩, h3]
  show (match o.data with
    | .cell _ => none
    | _ => some (b, o)) = some (b, o)
  split
  · rename_i v q
    exact absurd q (h4 v)
  · rfl
theorem inv_keepers {X : Cx} {pins : List (Addr × Obj)} {σ : L2.St} {H : Hp} {s : Shared} {n : Nat} (I : Inv X pins σ H s) (hl : X.env.locals < n) (hf : ∀ b ∈ X.fs, b < n) : Inv X (pins ++ keepers n H s.heap) σ H s :=
  I.pins_of fun p hp => (List.mem_append.mp hp).elim (fun z => I.pin p (List.mem_append_right _ z)) fun z => by
    obtain ⟨a1, a2, a3, a4⟩ := of_keepers z
    exact ⟨a3, a2, Nat.ne_of_gt (Nat.lt_of_lt_of_le hl a1), fun hb => absurd (Nat.lt_of_lt_of_le (hf _ hb) a1) (Nat.lt_irrefl _), a4⟩
/-- the state of the tables of generators is not looked at -/
theorem inv_gens {X : Cx} {pins : List (Addr × Obj)} {σ : L2.St} {H : Hp} {s : Shared} {g : Nat} {x : GenState} (I : Inv X pins σ H s) (hx : x.bare = true) : Inv X pins σ H (s.setGen g x) :=
  ⟨I.ok, I.os, allBare_setGen I.bare hx, I.base, I.loc, I.cell, I.free, I.freeC, I.pin, I.hok, I.len⟩

/-- an expression whose value is a generator that has not begun -/
abbrev TGenA := List Addr → L2.St → Hp → (List PyData → Hp → Prop) → Prop
structure PGenA (X : Cx) (k : Nat) (T : Hp → Prop) (e : Expr) (tg : TGenA) : Prop where
  run : ∀ (pins : List (Addr × Obj)) (s : Shared) (σ : L2.St) (H : Hp) (W : List Addr) (cont : List PyData → Hp → Prop), Inv X pins σ H s → tg W σ H cont → wpAny (model X.prog X.w) X.A (eval e X.env)
    (fun u s' => ∃ H1 sc L, Inv X pins σ H1 sc ∧ s.gens.size ≤ sc.gens.size ∧ GMadeA X.prog X.w X.K X.mg X.base k T X.stack H1 sc W L u s' ∧ cont L H1) X.xe s
section
variable {X : Cx} {k : Nat} {T : Hp → Prop} {f : Addr} {fd : FuncData} {ps : List Str} {sp : SpA} {dvs : List V} {ds : List Value} {x : Str} {p pos pos' : Pos}
def tCallA (sp : SpA) (dvs : List V) (t : TA) : TGenA := fun W σ H cont => t σ H fun vs H1 => ∃ L, sp (vs ++ dvs) H1 W L ∧ cont L H1
/-- f(e, ..) -/
theorem pgenA_call {e : Expr} {es : List Expr} {t : TA} (F : GFnA X.prog X.w X.K X.mg X.base k T f fd ps sp) (hr : Room k X.A) (hg : Gl X x) (hm : X.mg x = some (.ref f)) (hk : PySem.W.keepIn X.K (.ref f) = true) (hb : Binds X.K fd ps ds) (hd : Vals dvs ds)
    (ha : PA X (e :: es) t) (hdb : (x == ("__debug__" : Str)) = false := by decide) (hst : starEach (e :: es) X.env = (false, eval e X.env) :: starEach es X.env := by rfl) (hpl : (backTo pos' (starEach es X.env)).any (·.1) = false := by rfl) :
    PGenA X k T (.Call (.Name x p) (e :: es) [] pos') (tCallA sp dvs t) := by
  refine ⟨fun pins s σ H W cont I h => ?_⟩
  refine wpAny_Call_Name_kw (ld_glob I hg hm ?_ hdb)
  refine PySem.W.callWith_K (h₀ := X.base) I.ok.mod.kin hk (wpAny_gsz (n := s.gens.size) (Nat.le_refl _) (wpAny_mono (ha.run pos' pins s σ H _ I h) (fun us s1 ⟨vs, H1, I1, r, L, q, c⟩ hz => ⟨I1.kIn, ?_⟩) fun _ _ x _ => x)) hst hpl
  have r2 : Vals (vs ++ dvs) (us ++ ds) := r.append hd
  have hl2 : (us ++ ds).length = ps.length := by rw [← r2.length]; exact F.len _ _ _ _ q
  refine wpAny_call (codeAny_mono (F.run X.A X.stack s1 H1 ⟨us, []⟩ (us ++ ds) (vs ++ dvs) W L hr I1.env0 (hb s1 us I1.kIn hl2) r2 q) fun r s' hq => ?_)
  cases r with
  | error e => exact False.elim hq
  | ok fl =>
    cases fl with
    | ret u => exact ⟨H1, s1, L, I1, hz, hq, c⟩
    | next => exact False.elim hq
    | brk => exact False.elim hq
    | cont => exact False.elim hq
/-- a consumer's context at the making: all that is its own is older -/
structure Older (X : Cx) (pins : List (Addr × Obj)) (n : Nat) : Prop where
  s0 : X.s_0.heap.objs.size ≤ n
  loc : X.env.locals < n
  cells : ∀ x c, X.env.cells.lookup x = some c → c < n
  pins : ∀ p ∈ X.pn ++ pins, p.1 < n
  tbl : ∀ b ps, X.H_0 b = some (.tbl ps) → b < n
  fs : ∀ b ∈ X.fs, b < n
theorem older {pins : List (Addr × Obj)} {σ : L2.St} {H : Hp} {s : Shared} (I : Inv X pins σ H s) : Older X pins s.heap.objs.size where
  s0 := I.sz
  loc := I.lt
  cells := fun x c e => let ⟨_, q⟩ := I.cell x c e; q.lt
  pins := fun p hp => Heap.lt_size (I.pin p hp).1
  tbl := fun b ps e => let ⟨_, q⟩ := I.base.tbls b ps e; I.hok.lt q
  fs := fun b hb => by
    rcases I.ok.stk with z | ⟨z, _⟩
    · obtain ⟨_, o, e, _⟩ := I.stack.mem (show b ∈ X.stack.filterMap (·.frame) by rw [z]; exact hb)
      exact Heap.lt_size e
    · obtain ⟨_, o, e, _⟩ := I.stack.mem (show b ∈ X.stack.filterMap (·.frame) by
        rw [z, List.filterMap_cons]
        cases X.env.frame with
        | none => exact hb
        | some _ => exact List.mem_cons_of_mem _ hb)
      exact Heap.lt_size e
/-- the consumer behind a run of the generator -/
theorem Older.ran {pins : List (Addr × Obj)} {σ : L2.St} {n a g : Nat} {A : Around} {W : List Addr} {Φ : Nat → Shared → Hp → Prop} {L : List PyData} {Hs H : Hp} {s₀ s : Shared} (o : Older X pins n) (I : Inv X pins σ Hs s₀)
    (r : Sr ⟨X.prog, X.w, X.K, X.mg, X.base, A, X.stack, n, a, g, W, Φ, T, L⟩ Hs s₀ H s) : Inv X pins σ H s :=
  FsA.Inv.ran (G := ⟨X.prog, X.w, X.K, X.mg, X.base, A, X.stack, n, a, g, W, Φ, T, L⟩) rfl rfl rfl I r o.s0 o.loc o.cells o.pins o.tbl
/-- asked again: what it needs, from the consumer's two states -/
theorem zz_again {pins : List (Addr × Obj)} {σ' : L2.St} {n a g : Nat} {W : List Addr} {Φ : Nat → Shared → Hp → Prop} {L : List PyData} {H1 H2 : Hp} {s1 s2 : Shared} {k : Nat} {X' : Cx} {A' : Around} (I1 : s1.os = s2.os) (I2 : Inv X' (pins ++ keepers n H1 s1.heap) σ' H2 s2)
    (hP : X'.prog = X.prog) (hw : X'.w = X.w) (hK : X'.K = X.K) (hmg : X'.mg = X.mg) (hbase : X'.base = X.base) (hA : A'.frames = some X.stack) (hst : X'.stack = X.stack)
    (hg : ∀ i, g < i → i < s1.gens.size → s2.gens[i]? = s1.gens[i]?) (hz : g < s2.gens.size) (v : VSt W H1 H2) (t : T H2) (phi : Φ k (s2.setGen g .running) H2) :
    Zz ⟨X.prog, X.w, X.K, X.mg, X.base, A', X.stack, n, a, g, W, Φ, T, L⟩ k H1 s1 H2 (s2.setGen g .running) where
  env := by
    have e := I2.env0
    rw [hP, hw, hK, hmg, hbase, hst] at e
    exact ⟨hA, e.mod, e.bs, e.bsz, e.funs, e.frf, e.hok, allBare_setGen e.bare rfl⟩
  os := I1.symm
  gens := fun i hi hi2 => (setGen_ne (Nat.ne_of_lt hi)).trans (hg i hi hi2)
  gz := by rw [setGen_size]; exact hz
  kin := fun b o h1 h2 h3 h4 => by
    obtain ⟨e, q, _⟩ := I2.pin (b, o) (List.mem_append_right _ (List.mem_append_right _ (mem_keepers h1 h2 h4 h3)))
    exact ⟨e, q⟩
  view := v
  tab := t
  phi := phi
end

section
variable {G : Gp} {D : Df} {pos : Pos} {k : Nat}
/-- for x in g(..): yield e -/
def tAFY (W : List Addr) (T : Hp → Prop) (tgn : TGenA) (g : TG) (te : TE) : TFa := fun E L Hs σ H => tgn W σ H fun Lin H1 => ∃ (Lo Lr : List PyData) (Pv : Nat → Hp → L2.St → Hp → Prop), L = Lo ++ Lr ∧ Lo.length = Lin.length ∧ Pv 0 Hs σ H1 ∧
  (∀ i Hs σ H, Pv i Hs σ H → LamX.ExtN Hs H ∧ T H ∧ ∀ b ∈ W, ∃ zs, H b = some (.lst zs)) ∧
  (∀ i d d' Hs σ H, Lin[i]? = some d → Lo[i]? = some d' → Pv i Hs σ H → ∀ H' x, LamX.ExtN H H' → T H' → DaAt H' x d → g x σ H' fun σ2 H2 => te σ2 H2 fun y H3 => DaAt H3 y d' ∧ LamX.ExtN H' H3 ∧ T H3 ∧ ∀ H4, VSt W H3 H4 → T H4 → Pv (i + 1) H4 σ2 H4) ∧
  (∀ Hs σ H H', Pv Lin.length Hs σ H → LamX.ExtN H H' → T H' → E.nx Lr Hs σ H')
theorem gfa_forY {tg iter e : Expr} {yp p2 : Pos} {tgn : TGenA} {g : TG} {te : TE} (S : Sane G D) (hp : ∀ s H, PassesOwn (model G.P G.w) (G.X D s H).A (G.env D) (G.X D s H).xe) (hi : ∀ s H, PGenA (G.X D s H) k G.T iter tgn) (hr : Room (k + 1) (G.A.deeper (G.env D)))
    (hg : ∀ s H, PGk (G.X D s H) tg g) (he : ∀ s H, PEk (G.X D s H) e te) (hs : ∀ x, foldedSetIterable iter (G.env D) x = pure x := by intro _; rfl) (hgo : ∀ it v, letOwnedTupleGo tg it v = pure () := by intro _ _; rfl)
    (hco : (G.env D).scope.isCoroutine = false := by rfl) (hin : interactive (G.env D) = false := by rfl) :
    GFa G D (.For tg iter [.Expr (.Yield (some e) yp) p2] [] pos) (tAFY G.W G.T tgn g te) := by
  refine ⟨fun ip L s₀ c fs K J gd lv s₁ Hs s σ H E g0 k0 hG hI hgz I ht => ?_⟩
  refine seg_ForN (X := G.X D s₁ Hs) hs ?_
  rw [g0.over]
  refine wpAny_mono ((hi s₁ Hs).run ip s σ H G.W _ I ht) (fun u s1 h1 => ?_) fun x s' hx => k0.exc L s₀ s₁ Hs x s' hx
  obtain ⟨H1, sc, Lin, I1, hsc, made, Lo, Lr, Pv, hL, hlen, pv0, pvf, step, last⟩ := h1
  obtain ⟨a, g1, rfl, ha1, ha2, hgen, hgl, hsz, hold, hos, hbare, hkp, rest⟩ := made
  have hgg : G.g < g1 := Nat.lt_of_lt_of_le hgz (Nat.le_trans hsc hsz)
  have o0 := older I1
  have hn : G.n < sc.heap.objs.size := o0.loc
  have I1' : Inv (G.X D s₁ Hs) ip σ H1 s1 := I1.call' (ch := []) hos (Un.kept hkp) (I1.hok.kept hkp) hbare fun b z => by simp at z
  have hH1a : H1 a = none := I1.hok.fresh ha1
  refine wpAny_pyIter_gen hgen ?_
  intro p
  have oG : ∀ (s₁' : Shared) (Hs' : Hp), Older (G.X D s₁' Hs') ip sc.heap.objs.size := fun s₁' Hs' => ⟨by
      show (cut G.n s₁'.heap).objs.size ≤ _
      rw [cut_size]
      exact Nat.le_trans (Nat.min_le_left _ _) (Nat.le_of_lt hn), o0.loc, o0.cells, o0.pins, fun b ps e => by
      have e' : restr G.n Hs' b = some (.tbl ps) := e
      unfold restr at e'
      by_cases hb : b < G.n
      · exact Nat.lt_trans hb hn
      · rw [if_neg hb] at e'
        exact absurd e' (by simp), o0.fs⟩
  have gl := fca_loop (k := kfor (G.X D s₁ Hs) K J gd lv) (c' := .forLoop tg (.ref a) [.Expr (.Yield (some e) yp) p2] [] (G.env D)) (l := lv []) (kp := []) (p := p) g0 rfl rfl
  have ee := fun L s₀ s₁' Hs' x s' hx => sega_left (tg := tg) (it := .ref a) (body := [.Expr (.Yield (some e) yp) p2]) (lv := lv) (p := p) hp g0 k0 L s₀ s₁' Hs' x s' hx
  let Φi : Nat → Shared → Hp → Prop := fun m s H => ∃ (s₁ : Shared) (Hs : Hp) (σ : L2.St), Inv (G.X D s₁ Hs) ip σ H s ∧ Good G (Lo.drop (Lin.length - m) ++ Lr) s₁ Hs ∧ G.g < s.gens.size ∧ Pv (Lin.length - m) Hs σ H
  let Gi : Gp := ⟨G.P, G.w, G.K, G.mg, G.base, (G.A.deeper (G.env D)).in1, G.env D :: G.outer, sc.heap.objs.size, a, g1, G.W, Φi, G.T, Lin⟩
  have hhd : (G.A.deeper (G.env D)).handled = none := hr.hd
  have loop : ∀ (m i : Nat) (s₀ s₁ : Shared) (Hs : Hp) (s : Shared) (σ : L2.St) (H Hy : Hp) (sy : Shared), i + m = Lin.length → Good G (Lo.drop i ++ Lr) s₁ Hs → G.g < s.gens.size → Inv (G.X D s₁ Hs) ip σ H s → Rest Gi m Hy sy → Zz Gi m Hy sy H (s.setGen g1 .running) →
      s.gens[g1]? = sy.gens[g1]? → s.heap.IsGen a g1 →
      Seg (model G.P G.w) G.A (RA G) (YA G) ((Lo.drop i ++ Lr).length + 1) s₀ (.forLoop tg (.ref a) [.Expr (.Yield (some e) yp) p2] [] (G.env D)) ((model G.P G.w).den (.forLoop tg (.ref a) [.Expr (.Yield (some e) yp) p2] [] (G.env D))) (.ret (kfor (G.X D s₁ Hs) K J gd lv) none (gd false) (lv []) c p [] :: fs) s := by
    intro m
    induction m with
    | zero =>
      intro i s₀ s₁ Hs s3 σ3 H3 Hy sy hm hG3 hz3 I3 rst z hgs hig
      have hi0 : i = Lin.length := by omega
      have hdi : Lin.drop i = [] := by rw [hi0]; exact List.drop_length
      have hdo : Lo.drop i ++ Lr = Lr := by rw [hi0, ← hlen, List.drop_length]; rfl
      refine seg_forTurnN (X := G.X D s₁ Hs) ?_
      rw [gl.over]
      refine wpAny_gsz (n := G.g + 1) hz3 (next_A (G := Gi) (L := []) rfl hhd hr.depth I3.nolimit hig hgs rst ⟨Lin, by simp [Gi]⟩ z (fun _ t₁ Ht H' t phi sr hz => ?_) (fun d L' x v t₁ Ht H' t h => by cases h))
      obtain ⟨t₂, Ht₂, σ', I', hG', _, pv'⟩ := phi
      have J := (oG t₂ Ht₂).ran (T := G.T) I' sr
      rw [show Lin.length - 0 = Lin.length from rfl] at hG' pv'
      rw [← hlen, List.drop_length] at hG'
      rw [hdo]
      exact seg_forDoneN (X := G.X D s₁ Hs) (tg := tg) (it := .ref a) (body := [.Expr (.Yield (some e) yp) p2]) (k0.ok Lr s₀ t₂ Ht₂ t .next hG' hz ⟨σ', H', J, last Ht₂ σ' Ht H' pv' sr.ext sr.tab⟩)
    | succ m ih =>
      intro i s₀ s₁ Hs s3 σ3 H3 Hy sy hm hG3 hz3 I3 rst z hgs hig
      have hi : i < Lin.length := by omega
      have hio : i < Lo.length := by omega
      have hdi : Lin.drop i = Lin[i] :: Lin.drop (i + 1) := List.drop_eq_getElem_cons hi
      have hdo : Lo.drop i ++ Lr = Lo[i] :: (Lo.drop (i + 1) ++ Lr) := by rw [List.drop_eq_getElem_cons hio]; rfl
      have hli : (Lin.drop i).length = m + 1 := by rw [List.length_drop]; omega
      refine seg_forTurnN (X := G.X D s₁ Hs) ?_
      rw [gl.over]
      refine wpAny_gsz (n := G.g + 1) hz3 (next_A (G := Gi) (L := Lin.drop i) rfl hhd hr.depth I3.nolimit hig hgs (by rw [hli]; exact rst) ⟨Lin.take i, (List.take_append_drop i Lin).symm⟩ (by rw [hli]; exact z) (fun h => by rw [hdi] at h; cases h) (fun d L' x v t₁ Ht H' t hdl phi sr rv hda rst' hig' hid' hgl' hz => ?_))
      rw [hli] at phi
      rw [hdi] at hdl
      obtain ⟨rfl, rfl⟩ := List.cons.inj hdl
      obtain ⟨t₂, Ht₂, σ', I', hG', _, pv'⟩ := phi
      rw [show Lin.length - (m + 1) = i by omega] at hG' pv'
      have J := (oG t₂ Ht₂).ran (T := G.T) I' sr
      have Jk := inv_keepers (n := sc.heap.objs.size) J hn (oG t₂ Ht₂).fs
      have more : Ipn G (ip ++ keepers sc.heap.objs.size H' t.heap) := hI.more fun q hq => Nat.le_trans (Nat.le_of_lt hn) (of_keepers hq).1
      refine wpAny_of_eq (hgo _ v) ?_
      refine wpAny_mono ((hg t₂ Ht₂).run _ t σ' H' x v _ Jk rv (step i Lin[i] Lo[i] Ht₂ σ' Ht (List.getElem?_eq_getElem hi) (List.getElem?_eq_getElem hio) pv' H' x sr.ext sr.tab hda)) (fun _ s6 h6 => ?_) fun x s' hx => ee _ s₀ t₂ Ht₂ x s' hx
      obtain ⟨⟨σ2, H2, I2, q2⟩, gn2⟩ := h6
      rw [hdo]
      rw [hdo] at hG'
      refine seg_execs_cons ?_
      refine seg_Expr_Yield (n := (Lo.drop (i + 1) ++ Lr).length + 1) gl.split gl.gd gl.guard ?_ hco hin
      rw [gl.over]
      refine wpAny_mono ((he t₂ Ht₂).run _ s6 σ2 H2 _ I2 q2) (fun w s7 h7 => ?_) fun x s' hx => ee (Lo[i] :: (Lo.drop (i + 1) ++ Lr)) s₀ t₂ Ht₂ x s' hx
      obtain ⟨⟨y, H4, I4, ry, hdy, hext, hT4, nxt⟩, gn3⟩ := h7
      have gn : s7.gens = t.gens := gn3.trans gn2
      intro kap hk
      have hfin : G.g < s7.gens.size := by rw [gn]; exact hz
      refine ya_of hG' more hfin I4 ((pvf i Ht₂ σ' Ht pv').1.trans (sr.ext.trans hext)) hT4 ry hdy fun s2 H5 z5 hG5 => hk .none s2 ?_
      have J5 := rebase S more.le I4 z5
      have pv5 := nxt H5 z5.view z5.tab
      have hrest := rst'
      rw [show (Lin.drop (i + 1)).length = m by rw [List.length_drop]; omega] at hrest
      have same : ∀ j, G.g < j → j < t.gens.size → s2.gens[j]? = t.gens[j]? := fun j hj hj2 => (z5.gens j hj (by rw [gn]; exact hj2)).trans (by rw [gn])
      have eg1 : s2.gens[g1]? = t.gens[g1]? := same g1 hgg hgl'
      have hg2 : g1 < s2.gens.size := by
        rw [Array.getElem?_eq_getElem hgl'] at eg1
        exact (Array.getElem?_eq_some_iff.mp eg1).1
      have os5 : t.os = s2.os := by
        have a1 : s2.os = s7.os := z5.os
        have a2 : s7.os = t₂.os := I4.os
        have a3 : t.os = t₂.os := J.os
        rw [a3, a1, a2]
      have ig5 : s2.heap.IsGen a g1 := by
        obtain ⟨go, nm, qn, c1, c2, c3, c4⟩ := hig'
        exact ⟨go, nm, qn, (J5.pin (a, go) (List.mem_append_right _ (List.mem_append_right _ (mem_keepers ha1 hid' c1 fun v q => by rw [c3] at q; cases q)))).1, c2, c3, c4⟩
      refine seg_execs_nil ?_
      refine seg_again rfl (ih (i + 1) s2 s2 H5 s2 σ2 H5 H' t (by omega) hG5 z5.gz J5.unpinned hrest ?_ eg1 ig5)
      refine zz_again (X := G.X D s₁ Hs) (X' := G.X D s2 H5) (T := G.T) (g := g1) (n := sc.heap.objs.size) os5 J5 rfl rfl rfl rfl rfl J5.ok.frames rfl (fun j hj hj2 => same j (Nat.lt_trans hgg hj) hj2) hg2
        ⟨fun b u hb hu hne => z5.view.same b u hb (hext b u hu hne) hne, z5.view.trk⟩ z5.tab ⟨s2, H5, σ2, inv_gens J5.unpinned rfl, ?_, ?_, ?_⟩
      · rw [show Lin.length - m = i + 1 by omega]; exact hG5
      · rw [setGen_size]; exact z5.gz
      · rw [show Lin.length - m = i + 1 by omega]; exact pv5
  have hs1 : G.g < s1.gens.size := Nat.lt_trans hgg hgl
  obtain ⟨pe0, pt0, pw0⟩ := pvf 0 Hs σ H1 pv0
  have go := loop Lin.length 0 s₀ s₁ Hs s1 σ H1 H1 s1 (by omega) (by rw [List.drop_zero, ← hL]; exact hG) hs1 I1' (rest (G.A.deeper (G.env D)).in1 Φi G.W (fun b hb => .inl hb) hr.in1 I1.ok.frames)
    (zz_again (X := G.X D s₁ Hs) (X' := G.X D s₁ Hs) (T := G.T) (g := g1) (n := sc.heap.objs.size) rfl (inv_keepers (n := sc.heap.objs.size) I1' hn o0.fs) rfl rfl rfl rfl rfl I1.ok.frames rfl (fun _ _ _ => rfl) hgl ⟨fun _ _ _ q _ => q, pw0⟩ pt0
      ⟨s₁, Hs, σ, inv_gens I1' rfl, by rw [Nat.sub_self, List.drop_zero, ← hL]; exact hG, by rw [setGen_size]; exact hs1, by rw [Nat.sub_self]; exact pv0⟩) rfl hgen
  rw [List.drop_zero, ← hL] at go
  exact go
end
end FsA

set_option Elab.async false
set_option linter.all false
set_option maxRecDepth 100000
set_option maxHeartbeats 2000000
/-! a for over such a generator in a def's body -/
namespace FsA
open PySem PySem.Spec PyProof.Rows GenW L2 FsV FsE FsG Evl
section
variable {X : Cx} {pos : Pos} {k : Nat} {T : Hp → Prop}
/-- for x in g(..): a body that leaves the table of generators and writes what stands in W alone -/
def tSFA (T : Hp → Prop) (tgn : TGenA) (g : TG) (tb : TS) : TS := fun D σ H => ∃ W : List Addr, tgn W σ H fun Lin H1 => ∃ Pv : Nat → L2.St → Hp → Prop, Pv 0 σ H1 ∧ (∀ i σ H, Pv i σ H → T H ∧ ∀ b ∈ W, ∃ zs, H b = some (.lst zs)) ∧
  (∀ i d σ H, Lin[i]? = some d → Pv i σ H → ∀ H' x, LamX.ExtN H H' → T H' → DaAt H' x d → g x σ H' fun σ2 H2 => tb { D with nx := fun σ3 H3 => VSt W H' H3 ∧ Pv (i + 1) σ3 H3, ct := fun _ _ => False, bk := fun _ _ => False } σ2 H2) ∧
  (∀ σ H H', Pv Lin.length σ H → LamX.ExtN H H' → T H' → D.nx σ H')
theorem ps_forA {tg iter : Expr} {body : List Stmt} {tgn : TGenA} {g : TG} {tb : TS} (hp : PassesOwn (model X.prog X.w) X.A X.env X.xe) (hc : X.calm = true) (hi : PGenA X k T iter tgn) (hr : Room (k + 1) X.A) (hg : PGk X tg g) (hb : PSsk X body tb)
    (hs : ∀ x, foldedSetIterable iter X.env x = pure x := by intro _; rfl) (hgo : ∀ it v, letOwnedTupleGo tg it v = pure () := by intro _ _; rfl) : PS X (.For tg iter body [] pos) (tSFA T tgn g tb) := by
  refine ⟨fun pins s σ H D I h => ?_⟩
  obtain ⟨W, h⟩ := h
  refine wpAny_For (thn (hi.run pins s σ H W _ I h) fun u s1 h1 => ?_) hs
  obtain ⟨H1, sc, Lin, I1, hsc, made, Pv, pv0, pvf, step, last⟩ := h1
  obtain ⟨a, g1, rfl, ha1, ha2, hgen, hgl, hsz, hold, hos, hbare, hkp, rest⟩ := made
  have o0 := older I1
  have I1' : Inv X pins σ H1 s1 := I1.call' (ch := []) hos (Un.kept hkp) (I1.hok.kept hkp) hbare fun b z => by simp at z
  have hH1a : H1 a = none := I1.hok.fresh ha1
  refine wpAny_pyIter_gen hgen ?_
  let Φi : Nat → Shared → Hp → Prop := fun m s H => ∃ σ : L2.St, Inv X pins σ H s ∧ Pv (Lin.length - m) σ H
  let Gi : Gp := ⟨X.prog, X.w, X.K, X.mg, X.base, X.A.in1, X.stack, sc.heap.objs.size, a, g1, W, Φi, T, Lin⟩
  obtain ⟨pt0, pw0⟩ := pvf 0 σ H1 pv0
  refine codeAny_forLoop_any (fun m t => m ≤ Lin.length ∧ ∃ (σ' : L2.St) (H' Hy : Hp) (sy : Shared), Inv X pins σ' H' t ∧ Rest Gi m Hy sy ∧ Zz Gi m Hy sy H' (t.setGen g1 .running) ∧ t.gens[g1]? = sy.gens[g1]? ∧ t.heap.IsGen a g1) ?_ Lin.length ⟨Nat.le_refl _, σ, H1, H1, s1, I1', rest X.A.in1 Φi W (fun b hb => .inl hb) hr.in1 I1.ok.frames,
    zz_again (X := X) (X' := X) (T := T) (g := g1) (n := sc.heap.objs.size) rfl (inv_keepers (n := sc.heap.objs.size) I1' o0.loc o0.fs) rfl rfl rfl rfl rfl I1.ok.frames rfl (fun _ _ _ => rfl) hgl ⟨fun _ _ _ q _ => q, pw0⟩ pt0
      ⟨σ, inv_gens I1' rfl, by rw [Nat.sub_self]; exact pv0⟩, rfl, hgen⟩
  rintro m t0 ⟨hmle, σ3, H3, Hy, sy, I3, rst, z, hgs, hig⟩
  cases m with
  | zero =>
    refine wpAny_passesOwn hp (next_A (G := Gi) (L := []) rfl (I3.ok.hd hc) hr.depth I3.nolimit hig hgs rst ⟨Lin, by simp [Gi]⟩ z (fun _ t₁ Ht H' t phi sr => ?_) (fun d L' x v t₁ Ht H' t h => by cases h))
    obtain ⟨σ', I', pv'⟩ := phi
    have J := o0.ran (T := T) I' sr
    exact wpAny_execs_nil ⟨σ', H', J, last σ' Ht H' pv' sr.ext sr.tab⟩
  | succ m =>
    have hi : Lin.length - (m + 1) < Lin.length := by omega
    have hdi : Lin.drop (Lin.length - (m + 1)) = Lin[Lin.length - (m + 1)] :: Lin.drop (Lin.length - (m + 1) + 1) := List.drop_eq_getElem_cons hi
    have hli : (Lin.drop (Lin.length - (m + 1))).length = m + 1 := by rw [List.length_drop]; omega
    refine wpAny_passesOwn hp (next_A (G := Gi) (L := Lin.drop (Lin.length - (m + 1))) rfl (I3.ok.hd hc) hr.depth I3.nolimit hig hgs (by rw [hli]; exact rst) ⟨Lin.take _, (List.take_append_drop _ Lin).symm⟩ (by rw [hli]; exact z) (fun h => by rw [hdi] at h; cases h) (fun d L' x v t₁ Ht H' t hdl phi sr rv hda rst' hig' hid' hgl' => ?_))
    rw [hli] at phi
    rw [hdi] at hdl
    obtain ⟨rfl, rfl⟩ := List.cons.inj hdl
    obtain ⟨σ', I', pv'⟩ := phi
    have J := o0.ran (T := T) I' sr
    have Jk := inv_keepers (n := sc.heap.objs.size) J o0.loc o0.fs
    refine wpAny_of_eq (hgo _ v) ?_
    refine wpAny_passesOwn hp (thn (hg.run _ t σ' H' x v _ Jk rv (step _ _ σ' Ht (List.getElem?_eq_getElem hi) pv' H' x sr.ext sr.tab hda)) fun _ s6 h6 => ?_)
    obtain ⟨⟨σ2, H2, I2, q2⟩, gn2⟩ := h6
    refine wpAny_passesOwn hp (thn (hb.run _ s6 σ2 H2 _ I2 q2) fun f s7 ⟨q7, gn3⟩ => ?_)
    have gn : s7.gens = t.gens := gn3.trans gn2
    have hrest := rst'
    rw [show (Lin.drop (Lin.length - (m + 1) + 1)).length = m by rw [List.length_drop]; omega] at hrest
    cases f with
    | next =>
      obtain ⟨σ7, H7, I7, v7, n7⟩ := q7
      refine ⟨m, Nat.lt_succ_self m, by omega, σ7, H7, H', t, I7.unpinned, hrest, ?_, by rw [gn], ?_⟩
      · have n7' : Pv (Lin.length - m) σ7 H7 := by
          rw [show Lin.length - m = Lin.length - (m + 1) + 1 by omega]; exact n7
        refine zz_again (X := X) (X' := X) (T := T) (g := g1) (n := sc.heap.objs.size) (J.os.trans I7.os.symm) I7 rfl rfl rfl rfl rfl I1.ok.frames rfl (fun j _ _ => by rw [gn]) (by rw [gn]; exact hgl') v7 (pvf _ σ7 H7 n7').1 ⟨σ7, inv_gens I7.unpinned rfl, n7'⟩
      · obtain ⟨go, nm, qn, c1, c2, c3, c4⟩ := hig'
        exact ⟨go, nm, qn, (I7.pin (a, go) (List.mem_append_right _ (List.mem_append_right _ (mem_keepers ha1 hid' c1 fun v q => by rw [c3] at q; cases q)))).1, c2, c3, c4⟩
    | cont => obtain ⟨_, _, _, n7⟩ := q7; exact n7.elim
    | brk => obtain ⟨_, _, _, n7⟩ := q7; exact n7.elim
    | ret v => obtain ⟨x7, σ7, H7, I7, r7, n7⟩ := q7; exact ⟨x7, σ7, H7, I7.unpinned, r7, n7⟩
end
end FsA

set_option Elab.async false
set_option linter.all false
set_option maxRecDepth 100000
set_option maxHeartbeats 4000000
/-! seatings, all of them -/
namespace Fs
open PySem PyProof.Rows L2 Evl FsE FsC FsV FsG FsW FsD LamX FsA
/-- all that seatings hands out -/
def allG (n : Nat) (es : List Ent) : List PyData := (allS n (sortE es)).map dP
/-- how an entry goes on -/
def goA (n : Nat) (rs : List Ent) (e : Ent) : List (List Pr2) := if e.2.2 = 0 then (allS n (leftL e.1 rs)).map fun ps => (e.1, e.2.1) :: ps else []
theorem allS_go {n : Nat} {rs : List Ent} : allS (n + 1) rs = rs.flatMap (goA n rs) := rfl
section
variable {P : Program} {w : World} {K : PySem.W.Frag} {mg : Str → Option Value} {base : Heap}
theorem fun_gA {x qual : Str} {st : Stmt} {f : Addr} {fd : FuncData} {N ps : List Str} {k : Nat} {sp : SpA} {T : Hp → Prop} (F : Fun K x qual st f fd) (S : GScope N ps (defScope st)) (hcl : ∀ m x, (cellsFrom m (defScope st).names []).lookup x = none)
    (len : ∀ vs H W L, sp vs H W L → vs.length = ps.length) (mono : ∀ vs H W W' L, sp vs H W L → (∀ b ∈ W', b ∈ W ∨ H b = none) → sp vs H W' L)
    (hbody : ∀ (cdv : Value) (A : Around) (outer : List Env) (n a g : Nat) (W : List Addr) (Φ : Nat → Shared → Hp → Prop) (L : List PyData) (vs : List V) (H : Hp), Room k (A.deeper (envOfC qual (defScope st) n f cdv)) → sp vs H W L → Sane ⟨P, w, K, mg, base, A, outer, n, a, g, W, Φ, T, L⟩ ⟨N, qual, defScope st, f, cdv⟩ →
      ∃ t, GFas ⟨P, w, K, mg, base, A, outer, n, a, g, W, Φ, T, L⟩ ⟨N, qual, defScope st, f, cdv⟩ (defBody st) t ∧ ∀ H2, VSt W H H2 → T H2 → t (EbEnd T) L H2 (start N vs) H2) : GFnA P w K mg base (k + 1) T f fd ps sp := by
  obtain ⟨oc, od, kV, doc, pm, an, cdv, ct, osl, e, lk, hcd⟩ := F.ex
  subst e
  exact gfnA_of lk hcd S hcl len mono fun A outer n a g W Φ L vs H hr hsp hs => hbody cdv A outer n a g W Φ L vs H hr hsp hs
/-- seatings(seats, entries), for at most d seats -/
def spGenA (d : Nat) : SpA := fun vs H W L => ∃ (n : Nat) (l : Addr) (xs : List V) (es : List Ent), vs = [.int (n : Int), .ref l] ∧ n ≤ d ∧ n ≤ 4 ∧ H l = some (.lst xs) ∧ DaL H xs (es.map dE) ∧ EsOk es ∧ (∀ e ∈ es, e.2.2 < (n : Int)) ∧ l ∉ W ∧ (∀ b ∈ W, ∀ ys, H b ≠ some (.tup ys)) ∧ L = allG n es
theorem vst_tk {W : List Addr} {H H2 : Hp} (v : VSt W H H2) (h : ∀ b ∈ W, ∀ ys, H b ≠ some (.tup ys)) : TK H H2 := fun a xs e => v.same a _ (fun hb => h a hb xs e) e fun ps z => by cases z
theorem cl_gen : ∀ (m : Nat) (x : Str), (cellsFrom m (defScope (topS 1)).names []).lookup x = none := fun m x => rfl
/-- what holds amid the loops -/
structure WkA (PT : Addr) (W : List Addr) (r : Addr) (ys : List V) (rs : List Ent) (Hs H : Hp) : Prop where
  ext : LamX.ExtN Hs H
  tab : Tabs (tabQ PT) H
  row : H r = some (.lst ys)
  dat : DaL H ys (rs.map dE)
  out : r ∉ W
  lst : ∀ b ∈ W, ∃ zs, H b = some (.lst zs)
variable {PT r : Addr} {W : List Addr} {ys : List V} {rs : List Ent} {Hs H H2 : Hp}
theorem exn_tk' (e : LamX.ExtN H H2) : TK H H2 := fun a xs h => e a _ h fun ps z => (by cases z)
theorem WkA.go (h : WkA PT W r ys rs Hs H) (e : LamX.ExtN H H2) (t : Tabs (tabQ PT) H2) : WkA PT W r ys rs Hs H2 :=
  ⟨h.ext.trans e, t, e _ _ h.row fun ps z => (by cases z), h.dat.keep (exn_tk' e), h.out, fun b hb => let ⟨zs, q⟩ := h.lst b hb; ⟨zs, e _ _ q fun ps z => (by cases z)⟩⟩
theorem WkA.ex (h : WkA PT W r ys rs Hs H) (e : Ex H H2) : WkA PT W r ys rs Hs H2 := h.go (ExtN.of e) (h.tab.ext e)
theorem WkA.slept (h : WkA PT W r ys rs Hs H) (v : VSt W H H2) (t : Tabs (tabQ PT) H2) : WkA PT W r ys rs H2 H2 := by
  have tk : TK H H2 := vst_tk v fun b hb zs z => by
    obtain ⟨us, q⟩ := h.lst b hb
    rw [q] at z
    cases z
  exact ⟨ExtN.refl H2, t, v.same _ _ h.out h.row fun ps z => (by cases z), h.dat.keep tk, h.out, v.trk⟩
/-- the body ahead of its loop -/
theorem genA_head {n : Nat} {l : Addr} {xs : List V} {es : List Ent} {REST : TFa} {G : Gp} (hW : G.W = W) (hT : G.T = Tabs (tabQ PT)) (hn : n ≤ 4) (ok : EsOk es) (hl : H l = some (.lst xs)) (hd : DaL H xs (es.map dE)) (tab : Tabs (tabQ PT) H) (hlst : ∀ b ∈ W, ∃ zs, H b = some (.lst zs))
    (hrest : ∀ (r : Addr) (ys : List V) (Hs' H' : Hp) (L' : List PyData), WkA PT W r ys (sortE es) Hs' H' → L' = (if n = 0 then [] else allG n es) → REST (EbEnd (Tabs (tabQ PT))) L' Hs' [some (.int (n : Int)), some (.ref l), some (.ref r), none, none, none, none, none, none] H') :
    tASeq (tAP (tAsg (tCB (rSortU K 3 8) (tCons (tVar 1) tNil)) (gName 2)))
      (tASeq (tAIf (tTest (tOp (fun x y H Q => y = .non ∧ Q (.bl (!decide (x = .non))) H) (tCallS (spBar PT) (fun _ => E0) (tCons (tVar 0) (tCons (tVar 2) tNil))) (tC .non))) (tAP tRetN) tA0)
      (tASeq (tAIf (tTest (tOp rEq (tVar 0) (tC (.int 0)))) (tASeq (tAY G (tTup tNil)) tA0) tA0) REST))
      (EbEnd (Tabs (tabQ PT))) (allG n es) H (start nsGen [.int (n : Int), .ref l]) H := by
  refine s_asgLD (σ := [some (.int (n : Int)), some (.ref l), none, none, none, none, none, none, none]) (eld_sorted (ev_var (i := 1) rfl) hl hd ok) (fun r H1 ys hp e1 h1 d1 => ?_)
  have hrW : r ∉ W := fun hb => by
    obtain ⟨zs, q⟩ := hlst r hb
    rw [hp] at q
    cases q
  have w1 : WkA PT W r ys (sortE es) H H1 := ⟨ExtN.of e1, tab.ext e1, h1, d1, hrW, fun b hb => let ⟨zs, q⟩ := hlst b hb; ⟨zs, e1 _ _ q⟩⟩
  refine ⟨.int (n : Int), rfl, .ref r, rfl, n, r, ys, sortE es, rfl, hn, h1, d1, by have := ok.sort.1; omega, w1.tab, fun H2 v eN T2 hno hyes => ⟨rfl, _, rfl, ?_⟩⟩
  have w2 := w1.go eN T2
  cases hb : barOf n (sortE es) with
  | some b =>
    have hv : v ≠ .non := by
      obtain ⟨a, rfl, _⟩ := da_row (hyes b hb)
      exact fun z => by cases z
    rw [decide_eq_false hv]
    have nil : allS n (sortE es) = [] := by
      cases q : allS n (sortE es) with
      | nil => rfl
      | cons p0 rest =>
        have := no_bar (n := n) (rs := sortE es) (ps := p0) (by rw [q]; exact List.mem_cons_self)
        rw [hb] at this
        cases this
    refine ⟨rfl, ?_, w2.ext, T2⟩
    show (allS n (sortE es)).map dP = []
    rw [nil]
    rfl
  | none =>
    have hv : v = .non := hno hb
    subst hv
    refine (et_test (te := tOp rEq (tVar 0) (tC (.int 0))) (ev_op (ev_var (i := 0) rfl) ev_c (rv_eq rfl))) H2 (Ex.refl H2) _ fun H3 e3 => ?_
    cases n with
    | zero =>
      refine ⟨dP [], [], rfl, ?_⟩
      refine (etu_nil (σ := [some (.int ((0 : Nat) : Int)), some (.ref l), some (.ref r), none, none, none, none, none, none])) H3 (Ex.refl H3) _ fun a zs H4 e4 h4 d4 => ?_
      have w4 := (w2.ex e3).ex e4
      refine ⟨da_tup h4 d4, w4.ext, by rw [hT]; exact w4.tab, fun H5 v5 t5 => ?_⟩
      rw [hW] at v5
      rw [hT] at t5
      exact hrest r ys H5 H5 [] (w4.slept v5 t5) rfl
    | succ m =>
      have : decide (V.int ((m + 1 : Nat) : Int) = V.int 0) = false := decide_eq_false fun z => by
        have := V.int.inj z
        omega
      rw [this]
      exact hrest r ys H H3 (allG (m + 1) es) (w2.ex e3) rfl
end
end Fs

set_option Elab.async false
set_option linter.all false
set_option maxRecDepth 100000
set_option maxHeartbeats 8000000
/-! seatings, by its body -/
namespace Fs
open PySem PyProof.Rows L2 Evl FsE FsC FsV FsG FsW FsD LamX FsA
section
variable {P : Program} {w : World} {K : PySem.W.Frag} {mg : Str → Option Value} {base : Heap} {N : List Str} {qual : Str} {scope : Scope} {f : Addr} {cd : Value} {A : Around} {outer : List Env} {n : Nat} {s : Shared} {H : Hp}
theorem owns_acx : PassesOwn (model P w) (acx P w K mg base N qual scope f cd A outer n s H).A (acx P w K mg base N qual scope f cd A outer n s H).env (acx P w K mg base N qual scope f cd A outer n s H).xe :=
  passes_of (X := acx P w K mg base N qual scope f cd A outer n s H) (K := fun e s'' => CX P w outer (restr n H) { s with heap := cut n s.heap } (fun _ _ _ => False) e s'' ∧ ∀ p ∈ ([] : List (Addr × Obj)), s''.heap.get? p.1 = some p.2) (E₁ := fun _ _ => False) rfl
end
section
variable {P : Program} {w : World} {K : PySem.W.Frag} {mg : Str → Option Value} {base : Heap}
theorem gen_stepA {f PT : Addr} {fd : FuncData} {d : Nat} (F : Fun K "seatings" "seatings" (topS 1) f fd) (hm : mg "seatings" = some (.ref f)) (kp : PySem.W.keepIn K (.ref f) = true) (bi : Binds K fd ["seats", "entries"] [])
    (GB : CalX P w K mg base CX0 5 "least_bar" (spBar PT)) (GL : CalX P w K mg base CX0 1 "left_for_others" spLeft) (T : SeaT K mg) (ih : d = 0 ∨ GFnA P w K mg base (2 * d + 5) (Tabs (tabQ PT)) f fd ["seats", "entries"] (spGenA (d - 1))) :
    GFnA P w K mg base (2 * d + 7) (Tabs (tabQ PT)) f fd ["seats", "entries"] (spGenA d) := by
  refine fun_gA (k := 2 * d + 6) F scGen cl_gen (fun vs H W L h => ?_) (fun vs H W W' L h hW => ?_) (fun cdv A outer n0 a g W Φ L vs H hr h hs => ?_)
  · obtain ⟨n, l, xs, es, rfl, _⟩ := h
    rfl
  · obtain ⟨n, l, xs, es, h1, h2, h3, h4, h5, h6, h7, h8, h9, h10⟩ := h
    refine ⟨n, l, xs, es, h1, h2, h3, h4, h5, h6, h7, fun hl => ?_, fun b hb ys z => ?_, h10⟩
    · rcases hW l hl with q | q
      · exact h8 q
      · rw [h4] at q
        cases q
    · rcases hW b hb with q | q
      · exact h9 b q ys z
      · rw [z] at q
        cases q
  · obtain ⟨n, l, xs, es, rfl, hnd, hn, hl, hd, ok, hlt, hlW, htup, rfl⟩ := h
    have own : ∀ s H, PassesOwn (model (Gp.P (⟨P, w, K, mg, base, A, outer, n0, a, g, W, Φ, Tabs (tabQ PT), allG n es⟩ : Gp)) (Gp.w (⟨P, w, K, mg, base, A, outer, n0, a, g, W, Φ, Tabs (tabQ PT), allG n es⟩ : Gp))) (Gp.X (⟨P, w, K, mg, base, A, outer, n0, a, g, W, Φ, Tabs (tabQ PT), allG n es⟩ : Gp) (⟨nsGen, "seatings", defScope (topS 1), f, cdv⟩ : Df) s H).A (Gp.env (⟨P, w, K, mg, base, A, outer, n0, a, g, W, Φ, Tabs (tabQ PT), allG n es⟩ : Gp) (⟨nsGen, "seatings", defScope (topS 1), f, cdv⟩ : Df)) (Gp.X (⟨P, w, K, mg, base, A, outer, n0, a, g, W, Φ, Tabs (tabQ PT), allG n es⟩ : Gp) (⟨nsGen, "seatings", defScope (topS 1), f, cdv⟩ : Df) s H).xe := fun s H => owns_acx
    have lt0 : ∀ e ∈ sortE es, 0 ≤ e.2.2 ∧ e.2.2 < (n : Int) := fun e he => ⟨(ok.2 e ((sortE_perm es).mem_iff.mp he)).2.2.1, hlt e ((sortE_perm es).mem_iff.mp he)⟩
    have asc := sortE_sorted es
    rcases ih with hd0 | ih
    · subst hd0
      obtain rfl : n = 0 := by omega
      have noE : sortE es = [] := by
        cases q : sortE es with
        | nil => rfl
        | cons e rest =>
          have := lt0 e (by rw [q]; exact List.mem_cons_self)
          omega
      refine ⟨_, gfas_cons (gfa_ps (t := tAsg (tCB (rSortU K 3 8) (tCons (tVar 1) tNil)) (gName 2)) fun s H => ps_set (i := 2) scGen.nd rfl (Or.inl rfl) (pe_callB (cr_sortT (d := 3) (B := 8) (by decide)) (by rfl) T.sorted boot_sorted (pa_cons (pv 1) pa_nil)))
        (gfas_cons (gfa_if (fun s H => pt_cmpR op_notN (pe_cx (E := fun _ => E0) GB hr (by omega) (by rfl) at0 (pa_cons (pv 0) (pa_cons (pv 2) pa_nil))) pe_non (nomark _)) (gfas_pss fun s H => pss_one ps_retN) gfas_nil)
        (gfas_cons (gfa_if (fun s H => pt_cmpR op_eq (pv 0) pe_int (nomark _)) (gfas_one (gfa_yield hs fun s H => pe_tup pa_nil)) gfas_nil)
        (gfas_cons (gfa_ps fun s H => ps_set (i := 3) scGen.nd rfl (Or.inl rfl) (pe_op op_sub (pv 0) pe_int))
        (gfas_one (gfa_for (wi := iList K (tVar 2)) (g := gTup K 3 (gCons (gName 4) (gCons (gName 5) (gCons (gName 6) gNil)))) own (fun s H => pi_list (pv 2)) (fun s H => pg_tup rfl (pgs_cons (pg_name (i := 4) scGen.nd rfl (.inl rfl)) (pgs_cons (pg_name (i := 5) scGen.nd rfl (.inl rfl)) (pgs_cons (pg_name (i := 6) scGen.nd rfl (.inl rfl)) pgs_nil)))) gfas_never))))), fun H2 v t => ?_⟩
      refine genA_head (W := W) (PT := PT) rfl rfl hn ok (v.same l _ hlW hl fun ps z => by cases z) (hd.keep (vst_tk v htup)) t v.trk fun r ys Hs' H' L' wk hL => ?_
      refine s_asg (σ := [some (.int ((0 : Nat) : Int)), some (.ref l), some (.ref r), none, none, none, none, none, none]) (ev_op (ev_var (i := 0) rfl) ev_c rv_I0) (fun H1 e1 => ?_)
      have w1 := wk.ex e1
      refine ⟨.ref r, rfl, r, rfl, ⟨ys, sq_of w1.row⟩, ?_⟩
      have hys : ys = [] := List.eq_nil_of_length_eq_zero (by rw [w1.dat.length, noE]; rfl)
      subst hys
      refine gwalkA (E := { EbEnd (Tabs (tabQ PT)) with nx := fun L' Hs' σ' H' => tA0 (EbEnd (Tabs (tabQ PT))) L' Hs' σ' H' }) (L := L') (Hs := Hs') (K := K) (g := gTup K 3 (gCons (gName 4) (gCons (gName 5) (gCons (gName 6) gNil)))) (tb := fun _ _ _ _ _ => False) (σ := [some (.int ((0 : Nat) : Int)), some (.ref l), some (.ref r), some (.int (((0 : Nat) : Int) - 1)), none, none, none, none, none]) (xs := []) (fun i L'' Hs'' σ' H'' => L'' = [] ∧ WkA PT W r [] (sortE es) Hs'' H'') ⟨by rw [hL]; rfl, w1⟩ (fun i L Hs σ' H' k => sq_of k.2.row) (fun i x L Hs σ' H' hx => by simp at hx) (fun L Hs σ' H' k => ⟨k.1, k.2.ext, k.2.tab⟩)
    · refine ⟨_, gfas_cons (gfa_ps (t := tAsg (tCB (rSortU K 3 8) (tCons (tVar 1) tNil)) (gName 2)) fun s H => ps_set (i := 2) scGen.nd rfl (Or.inl rfl) (pe_callB (cr_sortT (d := 3) (B := 8) (by decide)) (by rfl) T.sorted boot_sorted (pa_cons (pv 1) pa_nil)))
        (gfas_cons (gfa_if (fun s H => pt_cmpR op_notN (pe_cx (E := fun _ => E0) GB hr (by omega) (by rfl) at0 (pa_cons (pv 0) (pa_cons (pv 2) pa_nil))) pe_non (nomark _)) (gfas_pss fun s H => pss_one ps_retN) gfas_nil)
        (gfas_cons (gfa_if (fun s H => pt_cmpR op_eq (pv 0) pe_int (nomark _)) (gfas_one (gfa_yield hs fun s H => pe_tup pa_nil)) gfas_nil)
        (gfas_cons (gfa_ps fun s H => ps_set (i := 3) scGen.nd rfl (Or.inl rfl) (pe_op op_sub (pv 0) pe_int))
        (gfas_one (gfa_for (wi := iList K (tVar 2)) (g := gTup K 3 (gCons (gName 4) (gCons (gName 5) (gCons (gName 6) gNil)))) own (fun s H => pi_list (pv 2)) (fun s H => pg_tup rfl (pgs_cons (pg_name (i := 4) scGen.nd rfl (.inl rfl)) (pgs_cons (pg_name (i := 5) scGen.nd rfl (.inl rfl)) (pgs_cons (pg_name (i := 6) scGen.nd rfl (.inl rfl)) pgs_nil))))
          (gfas_one (gfa_if (fun s H => pt_cmpR op_eq (pv 6) pe_int (nomark _)) (gfas_cons (gfa_ps fun s H => ps_set (i := 7) scGen.nd rfl (Or.inl rfl) (pe_cx (E := fun _ => E0) GL hr (by omega) (by rfl) at0 (pa_cons (pv 4) (pa_cons (pv 2) pa_nil))))
            (gfas_one (gfa_forY (te := tOp (rCatA K) (tTup (tCons (tTup (tCons (tVar 4) (tCons (tVar 5) tNil))) tNil)) (tVar 8)) hs own (fun s H => pgenA_call (dvs := []) ih (hr.mono (by omega)) (by rfl) hm kp bi .nil (pa_cons (pv 3) (pa_cons (pv 7) pa_nil))) (hr.mono (by omega)) (fun s H => pgk_name (i := 8) scGen.nd rfl)
              (fun s H => pek_cat (pek_tup (pak_cons (pek_tup (pak_cons (pkv 4) (pak_cons (pkv 5) pak_nil))) pak_nil)) (pkv 8))))) gfas_nil))))))), fun H2 v t => ?_⟩
      refine genA_head (W := W) (PT := PT) rfl rfl hn ok (v.same l _ hlW hl fun ps z => by cases z) (hd.keep (vst_tk v htup)) t v.trk fun r ys Hs' H' L' wk hL => ?_
      refine s_asg (σ := [some (.int (n : Int)), some (.ref l), some (.ref r), none, none, none, none, none, none]) (ev_op (ev_var (i := 0) rfl) ev_c rv_I0) (fun H1 e1 => ?_)
      have w1 := wk.ex e1
      refine ⟨.ref r, rfl, r, rfl, ⟨ys, sq_of w1.row⟩, ?_⟩
      have hL2 : L' = ((sortE es).flatMap (goA (n - 1) (sortE es))).map dP := by
        rw [hL]
        cases n with
        | zero =>
          have noE : sortE es = [] := by
            cases q : sortE es with
            | nil => rfl
            | cons e rest =>
              have := lt0 e (by rw [q]; exact List.mem_cons_self)
              omega
          rw [noE]
          rfl
        | succ m => rfl
      refine gwalkA (E := { EbEnd (Tabs (tabQ PT)) with nx := fun L' Hs' σ' H' => tA0 (EbEnd (Tabs (tabQ PT))) L' Hs' σ' H' }) (L := L') (Hs := Hs') (K := K) (xs := ys) (fun i L'' Hs'' σ' H'' => ∃ v4 v5 v6 v7 v8 : Option V, σ' = [some (.int (n : Int)), some (.ref l), some (.ref r), some (.int ((n : Int) - 1)), v4, v5, v6, v7, v8] ∧ WkA PT W r ys (sortE es) Hs'' H'' ∧ L'' = (((sortE es).drop i).flatMap (goA (n - 1) (sortE es))).map dP)
        ⟨none, none, none, none, none, rfl, w1, by rw [List.drop_zero]; exact hL2⟩ (fun i L Hs σ' H' ⟨_, _, _, _, _, _, k, _⟩ => sq_of k.row) (fun i x L Hs σ' H' hx ⟨v4, v5, v6, v7, v8, hσ, wk, hL⟩ => ?_) (fun L Hs σ' H' ⟨v4, v5, v6, v7, v8, hσ, wk, hL⟩ => ?_)
      · subst hσ
        obtain ⟨d0', hd1, hx1⟩ := wk.dat.got hx
        rw [List.getElem?_map] at hd1
        obtain ⟨e, he, rfl⟩ := Option.map_eq_some_iff.mp hd1
        have hlt' : i < (sortE es).length := (List.getElem?_eq_some_iff.mp he).1
        have hge : (sortE es)[i] = e := (List.getElem?_eq_some_iff.mp he).2
        have hdrop : (sortE es).drop i = e :: (sortE es).drop (i + 1) := by rw [List.drop_eq_getElem_cons hlt', hge]
        have hmem : e ∈ sortE es := List.mem_of_getElem? he
        obtain ⟨m, rfl⟩ : ∃ m, n = m + 1 := by
          have := lt0 e hmem
          exact ⟨n - 1, by omega⟩
        rw [hdrop, List.flatMap_cons, List.map_append] at hL
        rw [show m + 1 - 1 = m from rfl] at hL
        refine g_ent (σ := [some (.int ((m + 1 : Nat) : Int)), some (.ref l), some (.ref r), some (.int (((m + 1 : Nat) : Int) - 1)), v4, v5, v6, v7, v8]) hx1 ?_
        refine (et_test (te := tOp rEq (tVar 6) (tC (.int 0))) (σ := [some (.int ((m + 1 : Nat) : Int)), some (.ref l), some (.ref r), some (.int (((m + 1 : Nat) : Int) - 1)), some (.int e.1), some (.int e.2.1), some (.int e.2.2), v7, v8]) (ev_op (ev_var (i := 6) rfl) ev_c (rv_eq rfl))) H' (Ex.refl H') _ fun H3 e3 => ?_
        have w3 := wk.ex e3
        by_cases hs0 : e.2.2 = 0
        · rw [show decide (V.int e.2.2 = V.int 0) = true by rw [hs0]; decide, if_pos rfl]
          have hgo : goA m (sortE es) e = (allS m (leftL e.1 (sortE es))).map fun ps => (e.1, e.2.1) :: ps := by
            unfold goA
            rw [if_pos hs0]
          rw [hgo] at hL
          have okL : EsOk (leftL e.1 (sortE es)) := ok.sort.left
          have eqL : sortE (leftL e.1 (sortE es)) = leftL e.1 (sortE es) := sortE_asc okL (left_asc asc)
          refine ⟨.int e.1, rfl, .ref r, rfl, e.1, r, ys, sortE es, rfl, w3.row, w3.dat, by have := ok.sort.1; omega, fun p H4 zs hp e4 h4 d4 => ?_⟩
          have w4 := w3.ex e4
          have hpW : p ∉ W := fun hb => by
            obtain ⟨us, q⟩ := w3.lst p hb
            rw [hp] at q
            cases q
          refine ⟨.int (((m + 1 : Nat) : Int) - 1), rfl, .ref p, rfl, allG m (leftL e.1 (sortE es)), ⟨m, p, zs, leftL e.1 (sortE es), ?_, by omega, by omega, h4, d4, okL, fun x hx => ?_, hpW, fun b hb us z => ?_, rfl⟩, ((allS m (leftL e.1 (sortE es))).map fun ps => (e.1, e.2.1) :: ps).map dP, (((sortE es).drop (i + 1)).flatMap (goA m (sortE es))).map dP,
            fun j Hs5 σ5 H5 => ∃ v8 : Option V, σ5 = [some (.int ((m + 1 : Nat) : Int)), some (.ref l), some (.ref r), some (.int (((m + 1 : Nat) : Int) - 1)), some (.int e.1), some (.int e.2.1), some (.int e.2.2), some (.ref p), v8] ∧ WkA PT W r ys (sortE es) Hs5 H5,
            hL, ?_, ⟨v8, rfl, w4⟩, fun j Hs5 σ5 H5 ⟨_, _, k⟩ => ⟨k.ext, k.tab, k.lst⟩, fun j dd dd' Hs5 σ5 H5 hj hj' ⟨v8', hσ5, k5⟩ H6 x6 e6 t6 hx6 => ?_, fun Hs5 σ5 H5 H6 ⟨v8', hσ5, k5⟩ e6 t6 => ?_⟩
          · show [V.int (((m + 1 : Nat) : Int) - 1), V.ref p] = [V.int (m : Int), V.ref p]
            rw [show (((m + 1 : Nat) : Int) - 1) = (m : Int) by omega]
          · obtain ⟨x1, x2, x3⟩ := x
            have hx' := (left_mem (t := e.1) (rs := sortE es) (m := x1) (p := x2) (s := x3)).mp hx
            have := lt0 _ hx'.1
            show x3 < (m : Int)
            have h2 : x3 + 1 < ((m + 1 : Nat) : Int) := this.2
            omega
          · obtain ⟨zs', q⟩ := w4.lst b hb
            rw [q] at z
            cases z
          · show (((allS m (leftL e.1 (sortE es))).map fun ps => (e.1, e.2.1) :: ps).map dP).length = ((allS m (sortE (leftL e.1 (sortE es)))).map dP).length
            rw [eqL]
            simp only [List.length_map]
          · subst hσ5
            have hj2 : ((allS m (leftL e.1 (sortE es))).map dP)[j]? = some dd := by
              rw [← hj]
              show _ = ((allS m (sortE (leftL e.1 (sortE es)))).map dP)[j]?
              rw [eqL]
            rw [List.getElem?_map] at hj2
            obtain ⟨ps, hps, rfl⟩ := Option.map_eq_some_iff.mp hj2
            rw [List.getElem?_map, List.getElem?_map, hps] at hj'
            cases hj'
            have hpl := (mem_allS (List.mem_of_getElem? hps)).1
            have k6 := k5.go e6 t6
            refine (etu_cat (K := K) (σ := [some (.int ((m + 1 : Nat) : Int)), some (.ref l), some (.ref r), some (.int (((m + 1 : Nat) : Int) - 1)), some (.int e.1), some (.int e.2.1), some (.int e.2.2), some (.ref p), some x6]) (etu_1 (es_tu (etu_2 (es_int (ev_var (i := 4) rfl)) (es_int (ev_var (i := 5) rfl))))) (etu_da (ev_var (i := 8) rfl) hx6) (by rw [List.length_map, hpl]; show 1 + m ≤ 1000; omega)) H6 (Ex.refl H6) _ fun b us H7 e7 h7 d7 => ?_
            have k7 := k6.ex e7
            exact ⟨da_tup h7 d7, ExtN.of e7, k7.tab, fun H8 v8 t8 => ⟨_, rfl, k7.slept v8 t8⟩⟩
          · subst hσ5
            have k6 := k5.go e6 t6
            exact ⟨_, _, _, _, _, rfl, k6, rfl⟩
        · rw [show decide (V.int e.2.2 = V.int 0) = false from decide_eq_false fun z => hs0 (V.int.inj z), if_neg Bool.false_ne_true]
          have hgo : goA m (sortE es) e = [] := by
            unfold goA
            rw [if_neg hs0]
          rw [hgo] at hL
          exact ⟨_, _, _, _, _, rfl, w3, hL⟩
      · subst hσ
        have hlen : ys.length = (sortE es).length := by rw [wk.dat.length, List.length_map]
        rw [hlen, List.drop_length] at hL
        exact ⟨hL, wk.ext, wk.tab⟩
theorem gen_allA {f PT : Addr} {fd : FuncData} (F : Fun K "seatings" "seatings" (topS 1) f fd) (hm : mg "seatings" = some (.ref f)) (kp : PySem.W.keepIn K (.ref f) = true) (bi : Binds K fd ["seats", "entries"] [])
    (GB : CalX P w K mg base CX0 5 "least_bar" (spBar PT)) (GL : CalX P w K mg base CX0 1 "left_for_others" spLeft) (T : SeaT K mg) : ∀ d : Nat, GFnA P w K mg base (2 * d + 7) (Tabs (tabQ PT)) f fd ["seats", "entries"] (spGenA d)
  | 0 => gen_stepA (d := 0) F hm kp bi GB GL T (.inl rfl)
  | d + 1 => gen_stepA (d := d + 1) F hm kp bi GB GL T (.inr (by
    have ih := gen_allA F hm kp bi GB GL T d
    have e : 2 * (d + 1) + 5 = 2 * d + 7 := by omega
    rw [e]
    exact ih))
end
end Fs

set_option Elab.async false
set_option linter.all false
set_option maxRecDepth 100000
set_option maxHeartbeats 4000000
/-! min of a list of data -/
namespace FsD
open PySem PySem.Spec PyProof.Rows L2 Evl FsE FsV
theorem min_mem {d : PyData} : ∀ {ds : List PyData}, W.minD d ds ∈ d :: ds := by
  intro ds
  induction ds generalizing d with
  | nil => exact List.mem_singleton.mpr rfl
  | cons y ds ih =>
    unfold W.minD
    rw [List.foldl_cons]
    by_cases h : W.dataLt y d = true
    · rw [if_pos h]
      have := ih (d := y)
      exact List.mem_cons_of_mem _ this
    · rw [if_neg h]
      rcases List.mem_cons.mp (ih (d := d)) with e | e
      · exact List.mem_cons.mpr (.inl e)
      · exact List.mem_cons_of_mem _ (List.mem_cons_of_mem _ e)
def rMinDa : List V → Hp → VK → Prop := fun vs H Q => ∃ (a : Addr) (xs : List V) (d : PyData) (ds : List PyData), vs = [.ref a] ∧ H a = some (.lst xs) ∧ DaL H xs (d :: ds) ∧ (∀ x ∈ d :: ds, x.depth ≤ 30 ∧ x ≠ .none) ∧ (∀ x ∈ d :: ds, ∀ y ∈ d :: ds, W.alike x y = true) ∧ ∀ v, DaAt H v (W.minD d ds) → Q v H
theorem dal_reads {X : Cx} {pins : List (Addr × Obj)} {σ : L2.St} {H : Hp} {s : Shared} (I : Inv X pins σ H s) : ∀ {ds : List PyData} {xs : List V} {us : List Value}, DaL H xs ds → Vals xs us → ∃ as, ReadsAll s.heap us ds as
  | [], xs, us, h, r => by
    unfold DaL at h
    subst h
    cases r
    exact ⟨[], .nil⟩
  | d :: ds, xs, us, h, r => by
    unfold DaL at h
    obtain ⟨v, vs, rfl, h1, h2⟩ := h
    cases r with
    | cons r1 r2 =>
      obtain ⟨as, z1⟩ := Dp.reads I d v _ (dp_da h1) r1
      obtain ⟨bs, z2⟩ := dal_reads I h2 r2
      exact ⟨as ++ bs, .cons z1 z2⟩
theorem cr_minDa {X : Cx} (hc : X.calm = true) (hu : X.A.units + 64 < cLine) : CallR X (.builtin "min") rMinDa := by
  intro pins s σ H vs us Q I r h
  obtain ⟨a, xs, d, ds, rfl, ha, hd, hk, hal, q⟩ := h
  obtain ⟨u, rfl, ru⟩ := vals1 r
  obtain rfl : u = Value.ref a := ru
  obtain ⟨hz, its, n, rv, ho⟩ := I.hok a _ ha
  obtain ⟨as, hr⟩ := dal_reads I hd rv
  have hdep : PyData.depthAll (d :: ds) ≤ 30 := depthAll_le fun x hx => (hk x hx).1
  refine W.min_list_data (vs := its.toArray) (I.ok.hd hc) ⟨_, ho, rfl, n, rfl⟩ hr ⟨hal, fun x hx => (hk x hx).2⟩ (by omega) fun i v h' tk bs hv hread kp => ?_
  have hv' : its[i]? = some v := by simpa using hv
  have hi : i < xs.length := by
    rw [rv.length]
    exact (List.getElem?_eq_some_iff.mp hv').1
  obtain ⟨x, hx⟩ : ∃ x, xs[i]? = some x := ⟨_, List.getElem?_eq_getElem hi⟩
  obtain ⟨v2, hv2, rx⟩ := rv.get hx
  rw [hv'] at hv2
  cases hv2
  obtain ⟨e, he, hxe⟩ := hd.got hx
  have I' : Inv X pins σ H { s with heap := h', toks := tk } := I.kept fun b o z => kp b o z
  obtain ⟨cs, r2⟩ := Dp.reads I' e x v (dp_da hxe) rx
  have same : e = W.minD d ds := W.alike_unique _ _ _ _ _ (hal e (List.mem_of_getElem? he) _ min_mem) r2 hread
  exact ⟨x, H, I', rx, q x (same ▸ hxe)⟩
end FsD

set_option Elab.async false
set_option linter.all false
set_option maxRecDepth 100000
set_option maxHeartbeats 8000000
/-! what the law draws -/
namespace Fs
open PySem PyProof.Rows L2 Evl FsE FsC FsR FsK FsV FsG FsW FsD LamX
section
variable {σ : L2.St} {H : Hp} {te ta tb : TE} {K : PySem.W.Frag} {ds es : List PyData}
theorem exn_l {H H' : Hp} {a : Addr} {xs : List V} (e : LamX.ExtN H H') (h : SqL K H a xs) : SqL K H' a xs := by
  rcases h with (h | ⟨o, h⟩) | h
  · exact .inl (.inl (e a _ h (fun ps z => by cases z)))
  · exact .inl (.inr ⟨o, e a _ h (fun ps z => by cases z)⟩)
  · exact .inr h
theorem exn_tk {H H' : Hp} (e : LamX.ExtN H H') : TK H H' := fun a xs h => e a _ h (fun ps z => by cases z)
theorem pk_row {r : List Int} : Pk 2 (dR r) := Pk.tup fun d hd => by
  obtain ⟨i, _, rfl⟩ := List.mem_map.mp hd
  exact Pk.int
theorem pk_dP {ps : List Pr2} : Pk 3 (dP ps) := Pk.tup fun d hd => by
  obtain ⟨p, _, rfl⟩ := List.mem_map.mp hd
  exact pk_row
theorem row_inj {r q : List Int} (h : dR r = dR q) : r = q := by
  have h' : r.map PyData.int = q.map PyData.int := PyData.tuple.inj h
  have h2 := congrArg (List.map fun d : PyData => match d with
    | .int i => i
    | _ => (0 : Int)) h'
  simpa [List.map_map, Function.comp_def] using h2
/-- two tuples of data, compared -/
theorem ev_eqTu (ha : EvTu ta σ H ds) (hb : EvTu tb σ H es) (h1 : SeqAt.shaped (.tuple ds) = true) (h2 : SeqAt.shaped (.tuple es) = true) : Ev (tOp (rEqD K) ta tb) σ H (.bl (PyData.eqv (.tuple ds) (.tuple es))) := fun H1 e Q q =>
  ha H1 e _ fun a xs H2 e2 k2 d2 => hb H2 (e.trans e2) _ fun b ys H3 e3 k3 d3 => ⟨.tuple ds, .tuple es, dp_da ((da_tup k2 d2).ex e3), dp_da (da_tup k3 d3), h1, h2, q H3 (e2.trans e3)⟩
/-- (a new list of data) == [] -/
theorem ev_eqNilD (ha : EvLD ta σ H ds) : Ev (tOp (rEqNil K) ta (tLst tNil)) σ H (.bl ds.isEmpty) := fun H1 e Q q =>
  ha H1 e _ fun a xs H2 na e2 k2 d2 => ⟨(show 0 ≤ sizeLine by decide), fun p hp => ⟨a, p, xs, rfl, rfl, sq_of ((Ex.new hp) _ _ k2), sq_of upd_same, by
    have hl := d2.length
    have : xs.isEmpty = ds.isEmpty := by
      cases xs <;> cases ds <;> simp_all
    rw [this]
    exact q _ (e2.trans (Ex.new hp))⟩⟩
/-- l.append(a tuple of data) -/
theorem s_appDa {l : Addr} {xs : List V} {D : Ends} {d : PyData} (hl : H l = some (.lst xs)) (ha : Ev ta σ H (.ref l)) (h : EvS te σ H (fun v H' => DaAt H' v d)) (hz : xs.length < 100000) (k : ∀ v H1, Ex H H1 → DaAt H1 v d → D.nx σ (upd H1 l (.lst (xs ++ [v])))) :
    tDrop (tBM K "list" rAppend ta (tCons te tNil)) D σ H := ha H (Ex.refl H) _ fun H1 e1 =>
  ⟨.inl ⟨rfl, xs, sq_of (e1 l _ hl)⟩, h H1 e1 _ fun v H2 e2 hd => ⟨l, xs, v, rfl, rfl, e2 l _ (e1 l _ hl), sz_lt hz, k v H2 (e1.trans e2) hd⟩⟩
/-- l.extend(a new list of data) -/
theorem s_extDa {l : Addr} {xs : List V} {D : Ends} (hl : H l = some (.lst xs)) (ha : Ev ta σ H (.ref l)) (h : EvLD te σ H ds) (hz : xs.length + ds.length ≤ 100000) (k : ∀ ys H1, Ex H H1 → DaL H1 ys ds → D.nx σ (upd H1 l (.lst (xs ++ ys)))) :
    tDrop (tBM K "list" rExtend ta (tCons te tNil)) D σ H := ha H (Ex.refl H) _ fun H1 e1 =>
  ⟨.inl ⟨rfl, xs, sq_of (e1 l _ hl)⟩, h H1 e1 _ fun p ys H2 hp e2 h2 hd => ⟨l, p, xs, ys, rfl, rfl, e2 l _ (e1 l _ hl), h2, sz_of (by rw [hd.length]; exact hz), k ys H2 (e1.trans e2) hd⟩⟩
end
theorem row_at {row : List Int} {n i : Nat} (hl : row.length = n) (hr : RowOk row) (hi : i < n) : ∃ v, atI (row.map V.int) (i : Int) = some (.int v) ∧ 0 ≤ v ∧ v < 1000 := by
  have h : i < row.length := by omega
  exact ⟨row[i], atI_nat (by rw [List.getElem?_map, List.getElem?_eq_getElem h]; rfl), hr _ (List.getElem_mem h)⟩
def mach10 : List Int := [0, 1, 2, 3, 4, 5, 0, 1, 2, 0]
theorem mach_at {v : Int} (h : 0 ≤ v) : ∃ m, atI (mach10.map V.int) (v % 10) = some (.int m) ∧ 0 ≤ m ∧ m < 8 := by
  obtain ⟨j, hj, e⟩ : ∃ j : Nat, j < 10 ∧ v % 10 = (j : Int) := ⟨(v % 10).toNat, by omega, by omega⟩
  rw [e]
  have hj' : j < mach10.length := hj
  refine ⟨mach10[j], atI_nat (by rw [List.getElem?_map, List.getElem?_eq_getElem hj']; rfl), ?_⟩
  have : ∀ x ∈ mach10, 0 ≤ x ∧ x < 8 := by decide
  exact this _ (List.getElem_mem hj')
section
variable {P : Program} {w : World} {K : PySem.W.Frag} {mg : Str → Option Value} {base : Heap}
/-- _law_drawn(row) -/
def spDrawn (K : PySem.W.Frag) : Sp := fun vs H Q _ => ∃ (a : Addr) (row : List Int), vs = [.ref a] ∧ SqL K H a (row.map V.int) ∧ row.length = 15 ∧ RowOk row ∧
  ∀ (t l : Addr) (n : Nat) (xs : List V) (es : List Ent) (H2 : Hp), Ex H H2 → H l = none → H2 t = some (.tup [.int (n : Int), .ref l]) → 1 ≤ n → n ≤ 4 → H2 l = some (.lst xs) → DaL H2 xs (es.map dE) → EsOk es → es.length ≤ 14 → (es.map prE).Nodup → (∀ e ∈ es, e.2.2 < (n : Int)) → Q (.ref t) H2
abbrev nsDrawn : List Str := ["_law_row_here", "_law_seats", "_law_entries", "_law_k", "_law_machine", "_law_place", "_law_one"]
theorem scDrawn : FnScope nsDrawn ["_law_row_here"] (defScope (topS 9)) := ⟨rfl, rfl, rfl, by decide +kernel, rfl, by decide +kernel, by decide +kernel⟩
def sameF (m p : Int) : PyData → Option PyData
  | .tuple [.int x, .int y, z] => if x = m ∧ y = p then some (.tuple [.int x, .int y, z]) else none
  | _ => none
theorem same_nil {m p : Int} {es : List Ent} (h : ((es.map dE).filterMap (sameF m p)).isEmpty = true) : (m, p) ∉ es.map prE := by
  intro hm
  obtain ⟨e, he, hp⟩ := List.mem_map.mp hm
  obtain ⟨x, y, z⟩ := e
  simp only [prE, Prod.mk.injEq] at hp
  obtain ⟨rfl, rfl⟩ := hp
  have : dE (x, y, z) ∈ (es.map dE).filterMap (sameF x y) := List.mem_filterMap.mpr ⟨dE (x, y, z), List.mem_map_of_mem he, by simp [sameF, dE, dR]⟩
  rw [List.isEmpty_iff] at h
  rw [h] at this
  cases this
theorem ok_drawn {f : Addr} {fd : FuncData} (F : Fun K "_law_drawn" "_law_drawn" (topS 9) f fd) (T : LawT K mg) : FnOk P w K mg base CX0 1 f fd ["_law_row_here"] (spDrawn K) := by
  refine F.ok scDrawn (fun vs H Q E h => ?_) (fun cdv A outer s H vs Q E hr h => ?_)
  · obtain ⟨a, row, rfl, _⟩ := h
    rfl
  · obtain ⟨a, row, rfl, hS, hlen, hrow, q⟩ := h
    refine ⟨_, pss_cons (ps_set (i := 1) scDrawn.nd rfl (Or.inl rfl) (pe_op op_add pe_int (pe_op op_mod (pe_callTy call_int1 (by rfl) T.int (by decide +kernel) (pa_cons (pe_ix ix_list (pv 0) pe_int (fun _ _ => rfl)) pa_nil)) pe_int)))
      (pss_cons (ps_set (i := 2) scDrawn.nd rfl (Or.inl rfl) (pe_lst pa_nil))
      (pss_cons (ps_for PassesOwn.never rfl (pi_range1 rfl T.range (pa_cons (pe_op op_mod (pe_op op_fdiv (pe_ix ix_list (pv 0) pe_int (fun _ _ => rfl)) pe_int) pe_int) pa_nil)) (pg_name (i := 3) scDrawn.nd rfl (Or.inl rfl))
        (pss_cons (ps_set (i := 4) scDrawn.nd rfl (Or.inr rfl) (pe_ix ix_list (pe_lst (pa_cons pe_int (pa_cons pe_int (pa_cons pe_int (pa_cons pe_int (pa_cons pe_int (pa_cons pe_int (pa_cons pe_int (pa_cons pe_int (pa_cons pe_int (pa_cons pe_int pa_nil))))))))))) (pe_op op_mod (pe_callTy call_int1 (by rfl) T.int (by decide +kernel) (pa_cons (pe_ix ix_list (pv 0) (pe_op op_add pe_int (pv 3)) (fun _ _ => rfl)) pa_nil)) pe_int) (fun _ _ => rfl)))
        (pss_cons (ps_set (i := 5) scDrawn.nd rfl (Or.inr rfl) (pe_op op_mod (pe_op op_fdiv (pe_ix ix_list (pv 0) (pe_op op_add pe_int (pv 3)) (fun _ _ => rfl)) pe_int) pe_int))
        (pss_one (ps_if (pt_cmpR (op_eqNil (Nat.lt_of_le_of_lt (Nat.le_add_right _ _) hr.units)) (pe_lc (own := [("_law_one", 6)]) (g := gName 6) (tt := tTest (tOp (rEqD K) (tSl (rSlA K) (tVar 6) tNoPart (tPart (tC (.int 2)))) (tTup (tCons (tVar 4) (tCons (tVar 5) tNil))))) (te := tVar 6) rfl scDrawn.nd (pi_list (pv 2)) (blkOk_by (own := [("_law_one", 6)]) (N := nsDrawn) (sc := defScope (topS 9)) (by decide +kernel))
            (fun _ _ _ _ _ => pg_name (i := 6) scDrawn.nd rfl (.inl rfl)) (fun _ _ _ _ _ => pts_one (pt_cmpR (op_eqD hr.units) (pe_slice sl_tupA (pv 6) po_none (po_some pe_int)) (pe_tup (pa_cons (pv 4) (pa_cons (pv 5) pa_nil))) (nomark _))) (fun _ _ _ _ _ => pv 6)) (pe_lst pa_nil) (nomark _))
          (pss_one (ps_expr (pe_bm PySem.F.plainAttrs_list PySem.F.slot_list_append PySem.F.type_list_append mt_append (pv 2) (pa_cons (pe_tup (pa_cons (pv 4) (pa_cons (pv 5) (pa_cons (pe_op op_mod (pe_op op_fdiv (pe_ix ix_list (pv 0) (pe_op op_add pe_int (pv 3)) (fun _ _ => rfl)) pe_int) (pv 1)) pa_nil)))) pa_nil)))) pss_nil)))))
      (pss_one (ps_ret (pe_tup (pa_cons (pv 1) (pa_cons (pv 2) pa_nil))))))), ?_⟩
    obtain ⟨r0, hat0, r00, r01⟩ := row_at (i := 0) hlen hrow (by decide)
    obtain ⟨n, hn, n1, n4⟩ : ∃ n : Nat, 1 + r0 % 4 = (n : Int) ∧ 1 ≤ n ∧ n ≤ 4 := ⟨(1 + r0 % 4).toNat, by omega, by omega, by omega⟩
    have ix0 : ∀ {σ' : L2.St} {H' : Hp}, σ'[0]? = some (some (.ref a)) → Ex H H' → Ev (tOp (rIxL K) (tVar 0) (tC (.int 0))) σ' H' (.int r0) := fun h e => ev_op (ev_var h) ev_c (rv_ixL (ex_l e hS) hat0)
    refine q_asg (v := .int (n : Int)) (ev_is (ev_op ev_c (ev_op (x := .int r0) (ev_cb (ea_cons (ix0 rfl (Ex.refl H)) ea_nil) (rc_int (K := K))) ev_c (rv_I (by decide))) rv_I0) (by rw [hn])) (fun H1 e1 => ?_)
    refine q_asgLD (i := 2) (σ := [some (.ref a), some (.int (n : Int)), none, none, none, none, none]) eld_nil (fun l H2 ys hl e2 h2 d2 => ?_)
    have hlH : H l = none := fresh_back e1 hl
    have e12 := e1.trans e2
    refine q_forR1 (n := r0 / 4 % 15) (σ := [some (.ref a), some (.int (n : Int)), some (.ref l), none, none, none, none]) (ea_cons (ev_op (x := .int (r0 / 4)) (ev_op (x := .int r0) (ix0 rfl e12) ev_c (rv_I ⟨by decide, by decide⟩)) ev_c (rv_I (by decide))) ea_nil) (by omega)
      (fun i σ' H' => ∃ (xs : List V) (es : List Ent) (v3 v4 v5 : Option V), σ' = [some (.ref a), some (.int (n : Int)), some (.ref l), v3, v4, v5, none] ∧ Ex H H' ∧ H' l = some (.lst xs) ∧ DaL H' xs (es.map dE) ∧ es.length ≤ i ∧ (∀ e ∈ es, EntB e ∧ e.2.2 < (n : Int)) ∧ (es.map prE).Nodup)
      (fun H3 e3 => ⟨ys, [], none, none, none, rfl, e12.trans e3, e3 _ _ h2, d2.ex e3, Nat.le_refl _, (fun e he => by cases he), List.nodup_nil⟩)
      (fun i σ' H' hi ⟨xs, es, v3, v4, v5, hσ, he, hl', hd', hle, hB, hnd⟩ => ?_) (fun σ' H' ⟨xs, es, v3, v4, v5, hσ, he, hl', hd', hle, hB, hnd⟩ => ?_)
    · subst hσ
      have hi14 : i < 14 := by omega
      obtain ⟨v, hat, v0, v1⟩ := row_at (i := 1 + i) hlen hrow (by omega)
      have ei : (1 : Int) + (i : Int) = ((1 + i : Nat) : Int) := by omega
      rw [← ei] at hat
      have ixk : ∀ {σ' : L2.St} {H1 : Hp}, σ'[0]? = some (some (.ref a)) → σ'[3]? = some (some (.int (i : Int))) → Ex H' H1 → Ev (tOp (rIxL K) (tVar 0) (tOp (rI0 fun i j => .int (i + j)) (tC (.int 1)) (tVar 3))) σ' H1 (.int v) := fun h0 h3 e => ev_op (ev_var h0) (ev_op ev_c (ev_var h3) rv_I0) (rv_ixL (ex_l (he.trans e) hS) hat)
      obtain ⟨m, hm, m0, m8⟩ := mach_at v0
      refine q_asg (i := 4) (v := .int m) (σ := [some (.ref a), some (.int (n : Int)), some (.ref l), some (.int (i : Int)), v4, v5, none]) (ev_opL1 (xs := mach10.map V.int) (el_lst (ea_cons ev_c (ea_cons ev_c (ea_cons ev_c (ea_cons ev_c (ea_cons ev_c (ea_cons ev_c (ea_cons ev_c (ea_cons ev_c (ea_cons ev_c (ea_cons ev_c ea_nil)))))))))) (by decide)) (fun H3 e3 => ev_op (x := .int v) (ev_cb (ea_cons (ixk rfl rfl e3) ea_nil) (rc_int (K := K))) ev_c (rv_I (by decide))) (fun p H3 h3 e3 => rv_ixL (sq_of h3) hm)) (fun H3 e3 => ?_)
      refine q_asg (i := 5) (v := .int (v / 10 % 6)) (σ := [some (.ref a), some (.int (n : Int)), some (.ref l), some (.int (i : Int)), some (.int m), v5, none]) (ev_op (x := .int (v / 10)) (ev_op (x := .int v) (ixk rfl rfl e3) ev_c (rv_I ⟨by decide, by decide⟩)) ev_c (rv_I (by decide))) (fun H4 e4 => ?_)
      have e34 := e3.trans e4
      have T0 : LcTurn (gName 6) (tTest (tOp (rEqD K) (tSl (rSlA K) (tVar 6) tNoPart (tPart (tC (.int 2)))) (tTup (tCons (tVar 4) (tCons (tVar 5) tNil))))) (tVar 6) [6] [some (.ref a), some (.int (n : Int)), some (.ref l), some (.int (i : Int)), some (.int m), some (.int (v / 10 % 6)), none] H4 (es.map dE) (sameF m (v / 10 % 6)) := fun x d H5 Q2 e5 hx hmm k => by
        obtain ⟨e, hee, rfl⟩ := List.mem_map.mp hmm
        refine k [some (.ref a), some (.int (n : Int)), some (.ref l), some (.int (i : Int)), some (.int m), some (.int (v / 10 % 6)), some x] rfl ?_ fun z hz => ?_
        · have sl := etu_is (etu_sl (K := K) (etu_da (ev_var (i := 6) (σ := [some (.ref a), some (.int (n : Int)), some (.ref l), some (.int (i : Int)), some (.int m), some (.int (v / 10 % 6)), some x]) rfl) hx) eo_none (eo_some (i := ((2 : Nat) : Int)) ev_c)) cut_tk
          refine et_is (et_test (ev_eqTu sl (etu_2 (es_int (ev_var (i := 4) rfl)) (es_int (ev_var (i := 5) rfl))) ?_ ?_)) ?_
          · exact (Pk.tup (k := 1) fun d hd => by
              obtain ⟨y, _, rfl⟩ := List.mem_map.mp (List.mem_of_mem_take hd)
              exact Pk.int).shaped (by decide)
          · exact (Pk.tup (k := 1) fun d hd => by
              simp only [List.mem_cons, List.not_mem_nil, or_false] at hd
              rcases hd with rfl | rfl <;> exact Pk.int).shaped (by decide)
          · simp only [List.map_cons, List.map_nil, List.take_succ_cons, List.take_zero, PyData.eqv, PyData.eqvAll, sameF, dE, dR]
            by_cases h1 : e.1 = m <;> by_cases h2 : e.2.1 = v / 10 % 6 <;> simp [h1, h2]
        · simp only [sameF, dE, dR, List.map_cons, List.map_nil] at hz
          split at hz
          · cases hz
            exact es_da (ev_var (i := 6) rfl) hx
          · cases hz
      have hl4 := e34 _ _ hl'
      have hd4 := hd'.ex e34
      have lenx : xs.length = es.length := by rw [hd'.length, List.length_map]
      refine s_when (b := ((es.map dE).filterMap (sameF m (v / 10 % 6))).isEmpty) (σ := [some (.ref a), some (.int (n : Int)), some (.ref l), some (.int (i : Int)), some (.int m), some (.int (v / 10 % 6)), none]) (et_test (ev_eqNilD (eld_lc (sameF m (v / 10 % 6)) (ev_var (i := 2) rfl) (sq_of (K := K) hl4) hd4 (by rw [List.length_map]; omega) T0))) (fun hb H5 e5 => ?_) (fun hb H5 e5 => ?_)
      · have e35 := e34.trans e5
        refine s_appDa (l := l) (xs := xs) (d := dE (m, v / 10 % 6, v / 60 % (n : Int))) (e35 _ _ hl') (ev_var (i := 2) rfl) (es_tu (etu_3 (es_int (ev_var (i := 4) rfl)) (es_int (ev_var (i := 5) rfl)) (es_int (ev_op (x := .int (v / 60)) (ev_op (x := .int v) (ixk rfl rfl e35) ev_c (rv_I ⟨by decide, by decide⟩)) (ev_var (i := 1) rfl) (rv_I (by omega)))))) (by omega) (fun u H6 e6 hu => ?_)
        have k6 := tk_lst (zs := xs ++ [u]) (e6 _ _ (e35 _ _ hl'))
        have hs0 : 0 ≤ v / 60 % (n : Int) := Int.emod_nonneg _ (by omega)
        have hs1 : v / 60 % (n : Int) < (n : Int) := Int.emod_lt_of_pos _ (by omega)
        refine ⟨xs ++ [u], es ++ [(m, v / 10 % 6, v / 60 % (n : Int))], _, _, _, rfl, Ex.mut (he.trans (e35.trans e6)) hlH, upd_same, ?_, by rw [List.length_append]; exact Nat.succ_le_succ hle, fun e hee => ?_, ?_⟩
        · rw [List.map_append]
          exact DaL.snoc ((hd'.ex (e35.trans e6)).keep k6) (hu.keep k6)
        · rcases List.mem_append.mp hee with z | z
          · exact hB e z
          · rw [List.mem_singleton.mp z]
            exact ⟨⟨⟨m0, m8⟩, ⟨by show 0 ≤ v / 10 % 6; omega, by show v / 10 % 6 < 8; omega⟩, hs0, by show v / 60 % (n : Int) < 8; omega⟩, hs1⟩
        · rw [List.map_append, List.nodup_append]
          refine ⟨hnd, by simp, fun x hx y hy hxy => ?_⟩
          rw [List.map_singleton, List.mem_singleton] at hy
          subst hxy hy
          exact same_nil hb hx
      · exact ⟨xs, es, _, _, _, rfl, he.trans (e34.trans e5), e5 _ _ hl4, hd4.ex e5, by omega, hB, hnd⟩
    · subst hσ
      have h14 : (r0 / 4 % 15).toNat ≤ 14 := by omega
      refine s_retU (eu_tup (ea_cons (ev_var (i := 1) rfl) (ea_cons (ev_var (i := 2) rfl) ea_nil)) (show 2 ≤ 100000 by decide)) (fun t H3 ht e3 h3 => ?_)
      exact q t l n xs es H3 (he.trans e3) hlH h3 n1 n4 (e3 _ _ hl') (hd'.ex e3) ⟨by omega, fun e he => (hB e he).1⟩ (by omega) hnd (fun e he => (hB e he).2)
end
end Fs

set_option Elab.async false
set_option linter.all false
set_option maxRecDepth 100000
set_option maxHeartbeats 8000000
/-! the law's own seatings -/
namespace Fs
open PySem PyProof.Rows L2 Evl FsE FsC FsR FsK FsV FsG FsW FsD LamX
abbrev dQ (p : Pr2) : PyData := dR [p.1, p.2]
theorem da_pr {H : Hp} {v : V} {p : Pr2} (h : DaAt H v (dQ p)) : ∃ a, v = .ref a ∧ H a = some (.tup [.int p.1, .int p.2]) := da_row h
/-- pairs in order -/
def leP (a b : Pr2) : Bool := decide (codeP a ≤ codeP b)
def PrB (p : Pr2) : Prop := (0 ≤ p.1 ∧ p.1 < 8) ∧ (0 ≤ p.2 ∧ p.2 < 8)
theorem codeP_inj {a b : Pr2} (ha : PrB a) (hb : PrB b) (h : codeP a = codeP b) : a = b := by
  obtain ⟨m, p⟩ := a
  obtain ⟨m', p'⟩ := b
  obtain ⟨⟨a1, a2⟩, a3, a4⟩ := ha
  obtain ⟨⟨b1, b2⟩, b3, b4⟩ := hb
  simp only [codeP] at *
  have h1 : m = m' := by omega
  have h2 : p = p' := by omega
  rw [h1, h2]
theorem code_pr (p : Pr2) : TS.code 8 [p.1, p.2] = codeP p := by
  show p.1 * 8 ^ 1 + (p.2 * 8 ^ 0 + 0) = p.1 * 8 + p.2
  have e1 : (8 : Int) ^ 1 = 8 := by decide
  have e0 : (8 : Int) ^ 0 = 1 := by decide
  rw [e1, e0]
  omega
theorem pairs_b {es : List Ent} {k : Nat} (h : ∀ e ∈ es, EntB e) : ∀ p ∈ pairsAt es k, PrB p := fun p hp => by
  obtain ⟨e, he, rfl⟩ := List.mem_map.mp hp
  obtain ⟨h1, h2, _⟩ := h e (List.mem_filter.mp he).1
  exact ⟨h1, h2⟩
theorem pairs_len {es : List Ent} {k : Nat} : (pairsAt es k).length ≤ es.length := by
  unfold pairsAt
  rw [List.length_map]
  exact List.length_filter_le _ _
/-- the pairs of a seat, sorted, are those of the entries in order -/
theorem pairs_sorted {es : List Ent} {k : Nat} {qs : List Pr2} (ok : EsOk es) (hp : qs.Perm (pairsAt es k)) (hs : qs.Pairwise fun a b => codeP a ≤ codeP b) : qs = pairsAt (sortE es) k := by
  have p2 : (pairsAt es k).Perm (pairsAt (sortE es) k) := ((sortE_perm es).symm.filter _).map _
  refine List.Perm.eq_of_pairwise (le := fun a b => codeP a ≤ codeP b) (fun a b ha hb h1 h2 => ?_) hs ?_ (hp.trans p2)
  · exact codeP_inj (pairs_b ok.2 a (hp.mem_iff.mp ha)) (pairs_b ok.sort.2 b hb) (by omega)
  · unfold pairsAt
    rw [List.pairwise_map]
    refine ((sortE_sorted es).filter _).imp_of_mem fun {a b} ha hb hab => ?_
    have s1 : a.2.2 = (k : Int) := by simpa using (List.mem_filter.mp ha).2
    have s2 : b.2.2 = (k : Int) := by simpa using (List.mem_filter.mp hb).2
    simp only [codeE] at hab
    show a.1 * 8 + a.2.1 ≤ b.1 * 8 + b.2.1
    omega
def prAt (H : Hp) (v : V) : Pr2 := match rowAt H v with
  | [m, p] => (m, p)
  | _ => (0, 0)
theorem prs_at {H : Hp} {ps : List Pr2} {vs : List V} (h : DaL H vs (ps.map dQ)) : vs.map (prAt H) = ps ∧ ∀ v ∈ vs, ∃ a p, v = .ref a ∧ p ∈ ps ∧ prAt H v = p ∧ H a = some (.tup [.int p.1, .int p.2]) := by
  have h' : DaL H vs ((ps.map fun p : Pr2 => [p.1, p.2]).map dR) := by
    rw [List.map_map]
    exact h
  obtain ⟨k1, k2⟩ := rows_at h'
  refine ⟨?_, fun v hv => ?_⟩
  · have : vs.map (prAt H) = (vs.map (rowAt H)).map (fun r => match r with
      | [m, p] => ((m, p) : Pr2)
      | _ => (0, 0)) := by rw [List.map_map]; rfl
    rw [this, k1, List.map_map]
    exact List.map_id' ps
  · obtain ⟨a, e, ha⟩ := k2 v hv
    have hr : rowAt H v ∈ ps.map fun p : Pr2 => [p.1, p.2] := by rw [← k1]; exact List.mem_map_of_mem hv
    obtain ⟨x, hx, hxe⟩ := List.mem_map.mp hr
    rw [← hxe] at ha
    refine ⟨a, x, e, hx, ?_, ha⟩
    unfold prAt
    rw [← hxe]
/-- sorted(a new list of pairs) -/
theorem eld_sortedP {σ : L2.St} {H : Hp} {te : TE} {K : PySem.W.Frag} {es : List Ent} {k : Nat} (ok : EsOk es) (h : EvLD te σ H ((pairsAt es k).map dQ)) : EvLD (tCB (rSortU K 2 8) (tCons te tNil)) σ H ((pairsAt (sortE es) k).map dQ) := fun H1 e Q q => h H1 e _ fun l xs H2 nl e2 hl hd => by
  obtain ⟨k1, k2⟩ := prs_at hd
  have len : xs.length = (pairsAt es k).length := by rw [← k1, List.length_map]
  have hk := pairs_len (es := es) (k := k)
  have hok := ok.1
  refine ⟨l, xs, rfl, sq_of hl, by omega, fun x hx => ?_, fun ys p hperm hpw hp => ?_⟩
  · obtain ⟨a, en, rfl, hen, _, ha⟩ := k2 x hx
    obtain ⟨b1, b2⟩ := pairs_b ok.2 en hen
    refine ⟨[en.1, en.2], ⟨a, rfl, st_of ha⟩, rfl, fun m hm => ?_⟩
    simp only [List.mem_cons, List.not_mem_nil, or_false] at hm
    rcases hm with rfl | rfl
    · exact b1
    · exact b2
  · have hrs : ys.map (prAt H2) = pairsAt (sortE es) k := by
      refine pairs_sorted ok ?_ ?_
      · have := hperm.map (prAt H2)
        rwa [k1] at this
      · rw [List.pairwise_map]
        refine hpw.imp_of_mem fun {x y} hx hy hxy => ?_
        obtain ⟨a, ex, rfl, _, h1, ha⟩ := k2 x (hperm.mem_iff.mp hx)
        obtain ⟨b, ey, rfl, _, h2, hb⟩ := k2 y (hperm.mem_iff.mp hy)
        rw [h1, h2, ← code_pr, ← code_pr]
        exact hxy _ _ ⟨a, rfl, st_of ha⟩ ⟨b, rfl, st_of hb⟩
    refine q p ys _ (fresh_back e2 hp) (e2.trans (Ex.new hp)) upd_same ?_
    rw [← hrs]
    have hf : ∀ v ∈ ys, ∃ a, v = .ref a ∧ (upd H2 p (.lst ys)) a = some (.tup (([(prAt H2 v).1, (prAt H2 v).2] : List Int).map V.int)) := fun v hv => by
      obtain ⟨a, ex, e', _, h1, ha⟩ := k2 v (hperm.mem_iff.mp hv)
      exact ⟨a, e', by rw [h1]; exact (Ex.new hp) _ _ ha⟩
    have := rows_da (f := fun v => [(prAt H2 v).1, (prAt H2 v).2]) hf
    rw [List.map_map] at this
    rw [List.map_map]
    exact this
theorem longer_take {F : List (List Pr2)} {Ps : List Pr2} {i : Nat} {c : List Pr2} (h : F[i]? = some c) : longer (F.take (i + 1)) Ps = longer (F.take i) Ps ++ (Ps.filter (newP c)).map fun p => c ++ [p] := by
  unfold longer
  rw [List.take_add_one, h, List.flatMap_append]
  simp
theorem longer_len {Ps : List Pr2} : ∀ F : List (List Pr2), (longer F Ps).length ≤ F.length * Ps.length
  | [] => by simp [longer]
  | c :: F => by
    have ih := longer_len (Ps := Ps) F
    unfold longer at ih ⊢
    rw [List.flatMap_cons, List.length_append, List.length_map, List.length_cons, Nat.succ_mul]
    have := List.length_filter_le (newP c) Ps
    omega
theorem longer_mem {F : List (List Pr2)} {Ps : List Pr2} {n : Nat} (h : ∀ c ∈ F, c.length = n) : ∀ c ∈ longer F Ps, c.length = n + 1 := fun c hc => by
  obtain ⟨d, hd, hc⟩ := List.mem_flatMap.mp hc
  obtain ⟨p, _, rfl⟩ := List.mem_map.mp hc
  rw [List.length_append, h d hd]
  rfl
def fstD : PyData → Option PyData
  | .tuple [.int m, _] => some (.int m)
  | _ => none
theorem fst_map : ∀ {c : List Pr2}, (c.map dQ).filterMap fstD = (c.map (·.1)).map PyData.int
  | [] => rfl
  | p :: c => by
    have ih := fst_map (c := c)
    rw [List.map_cons, List.map_cons, List.map_cons, ← ih, List.filterMap_cons, show fstD (dQ p) = some (.int p.1) from rfl]
def addD (c : List Pr2) : PyData → Option PyData
  | .tuple [.int m, .int p] => if m ∈ c.map (·.1) then none else some (dP (c ++ [(m, p)]))
  | _ => none
theorem add_pairs {c : List Pr2} : ∀ {Ps : List Pr2}, (Ps.map dQ).filterMap (addD c) = ((Ps.filter (newP c)).map fun p => c ++ [p]).map dP
  | [] => rfl
  | p :: Ps => by
    have ih := add_pairs (c := c) (Ps := Ps)
    rw [List.map_cons, List.filterMap_cons]
    by_cases h : p.1 ∈ c.map (·.1)
    · rw [List.filter_cons_of_neg (by unfold newP; simp only [h, decide_true, Bool.not_true]; decide)]
      rw [show addD c (dQ p) = none by simp only [addD, dQ, dR, List.map_cons, List.map_nil, if_pos h]]
      exact ih
    · rw [List.filter_cons_of_pos (by unfold newP; simp only [h, decide_false, Bool.not_false])]
      rw [show addD c (dQ p) = some (dP (c ++ [p])) by simp only [addD, dQ, dR, List.map_cons, List.map_nil, if_neg h]]
      rw [List.map_cons, List.map_cons, ← ih]
section
variable {P : Program} {w : World} {K : PySem.W.Frag} {mg : Str → Option Value} {base : Heap}
/-- _law_longer(found, pairs) -/
def spLonger : Sp := fun vs H Q _ => ∃ (a b : Addr) (xs ys : List V) (F : List (List Pr2)) (Ps : List Pr2), vs = [.ref a, .ref b] ∧ H a = some (.lst xs) ∧ DaL H xs (F.map dP) ∧ H b = some (.lst ys) ∧ DaL H ys (Ps.map dQ) ∧ F.length ≤ 3000 ∧ Ps.length ≤ 14 ∧ (∀ c ∈ F, c.length ≤ 4) ∧
  ∀ (p : Addr) (H2 : Hp) (zs : List V), H p = none → Ex H H2 → H2 p = some (.lst zs) → DaL H2 zs ((longer F Ps).map dP) → Q (.ref p) H2
abbrev nsLonger : List Str := ["_law_found", "_law_pairs", "_law_longer_here", "_law_chosen", "_law_used", "_law_pair"]
theorem scLonger : FnScope nsLonger ["_law_found", "_law_pairs"] (defScope (topS 10)) := ⟨rfl, rfl, rfl, by decide +kernel, rfl, by decide +kernel, by decide +kernel⟩
theorem ok_longer {f : Addr} {fd : FuncData} (F : Fun K "_law_longer" "_law_longer" (topS 10) f fd) : FnOk P w K mg base CX0 1 f fd ["_law_found", "_law_pairs"] spLonger := by
  refine F.ok scLonger (fun vs H Q E h => ?_) (fun cdv A outer s H vs Q E hr h => ?_)
  · obtain ⟨a, b, xs, ys, F, Ps, rfl, _⟩ := h
    rfl
  · obtain ⟨a, b, xs, ys, F, Ps, rfl, ha, hd, hb, hdb, hF, hP, hc, q⟩ := h
    refine ⟨_, pss_cons (ps_set (i := 2) scLonger.nd rfl (Or.inl rfl) (pe_lst pa_nil))
      (pss_cons (ps_for PassesOwn.never rfl (pi_list (pv 0)) (pg_name (i := 3) scLonger.nd rfl (Or.inr rfl))
        (pss_cons (ps_set (i := 4) scLonger.nd rfl (Or.inr rfl) (pe_lc (own := [("_law_pair", 5)]) (g := gName 5) (tt := tYes) (te := tOp (rIxT K) (tVar 5) (tC (.int 0))) rfl scLonger.nd (pi_tup (pv 3)) (blkOk_by (own := [("_law_pair", 5)]) (N := nsLonger) (sc := defScope (topS 10)) (by decide +kernel))
            (fun _ _ _ _ _ => pg_name (i := 5) scLonger.nd rfl (.inl rfl)) (fun _ _ _ _ _ => pts_nil) (fun _ _ _ _ _ => pe_ix ix_tup (pv 5) pe_int (fun _ _ => rfl))))
        (pss_one (ps_expr (pe_bm PySem.F.plainAttrs_list PySem.F.slot_list_extend PySem.F.type_list_extend mt_extend (pv 2) (pa_cons (pe_lc (own := [("_law_pair", 5)]) (g := gName 5) (tt := tTest (tOp (rIn K true) (tOp (rIxT K) (tVar 5) (tC (.int 0))) (tVar 4))) (te := tOp (rCatA K) (tVar 3) (tTup (tCons (tVar 5) tNil))) rfl scLonger.nd (pi_list (pv 1)) (blkOk_by (own := [("_law_pair", 5)]) (N := nsLonger) (sc := defScope (topS 10)) (by decide +kernel))
            (fun _ _ _ _ _ => pg_name (i := 5) scLonger.nd rfl (.inl rfl)) (fun _ _ _ _ _ => pts_one (pt_cmpR op_notIn_seq (pe_ix ix_tup (pv 5) pe_int (fun _ _ => rfl)) (pv 4) (by rfl))) (fun _ _ _ _ _ => pe_op op_catA (pv 3) (pe_tup (pa_cons (pv 5) pa_nil)))) pa_nil))))))
      (pss_one (ps_ret (pv 2)))), ?_⟩
    refine q_asgLD (i := 2) (σ := [some (.ref a), some (.ref b), none, none, none, none]) eld_nil (fun l H1 zs0 hl e1 h1 d1 => ?_)
    refine q_forLn (a := a) (xs := xs) (σ := [some (.ref a), some (.ref b), some (.ref l), none, none, none]) (ev_var (i := 0) rfl) (sq_of (e1 _ _ ha))
      (fun i σ' H' => ∃ (zs : List V) (v3 v4 : Option V), σ' = [some (.ref a), some (.ref b), some (.ref l), v3, v4, none] ∧ Ex H H' ∧ H' l = some (.lst zs) ∧ DaL H' zs ((longer (F.take i) Ps).map dP))
      (fun H2 e2 => ⟨zs0, none, none, rfl, e1.trans e2, e2 _ _ h1, d1.ex e2⟩) (fun i σ' H' _ ⟨_, _, _, _, k, _⟩ => sq_of (k _ _ ha)) (fun i x σ' H' hx ⟨zs, v3, v4, hσ, he, hl', hz'⟩ => ?_) (fun σ' H' ⟨zs, v3, v4, hσ, he, hl', hz'⟩ => ?_)
    · subst hσ
      obtain ⟨d, hd1, hd2⟩ := hd.got hx
      rw [List.getElem?_map] at hd1
      obtain ⟨c, hc1, rfl⟩ := Option.map_eq_some_iff.mp hd1
      have hcl : c.length ≤ 4 := hc c (List.mem_of_getElem? hc1)
      have hi : i < F.length := (List.getElem?_eq_some_iff.mp hc1).1
      obtain ⟨t, ws, rfl, ht, dt⟩ := (hd2.ex he).tup
      have T1 : LcTurn (gName 5) tYes (tOp (rIxT K) (tVar 5) (tC (.int 0))) [5] [some (.ref a), some (.ref b), some (.ref l), some (.ref t), v4, none] H' (c.map dQ) fstD := fun x d H2 Q2 e2 hx2 hm k => by
        obtain ⟨p, hp, rfl⟩ := List.mem_map.mp hm
        obtain ⟨u, rfl, hu⟩ := da_pr hx2
        refine k [some (.ref a), some (.ref b), some (.ref l), some (.ref t), v4, some (.ref u)] rfl et_nil fun z hz => ?_
        have := Option.some.inj hz
        subst this
        exact es_int (ev_op (ev_var (i := 5) rfl) ev_c (rv_ixT (st_of hu) rfl))
      refine q_asgLD (i := 4) (σ := [some (.ref a), some (.ref b), some (.ref l), some (.ref t), v4, none]) (eld_is (eld_lcT (K := K) fstD (ev_var (i := 3) rfl) (st_of ht) dt (by rw [List.length_map]; omega) T1) fst_map) (fun u H2 us hu e2 h2 d2 => ?_)
      have hus := dal_ints d2
      subst hus
      have e02 := he.trans e2
      have T2 : LcTurn (gName 5) (tTest (tOp (rIn K true) (tOp (rIxT K) (tVar 5) (tC (.int 0))) (tVar 4))) (tOp (rCatA K) (tVar 3) (tTup (tCons (tVar 5) tNil))) [5] [some (.ref a), some (.ref b), some (.ref l), some (.ref t), some (.ref u), none] H2 (Ps.map dQ) (addD c) := fun x d H3 Q2 e3 hx3 hm k => by
        obtain ⟨p, hp, rfl⟩ := List.mem_map.mp hm
        obtain ⟨r, er, hrr⟩ := da_pr hx3
        refine k [some (.ref a), some (.ref b), some (.ref l), some (.ref t), some (.ref u), some x] rfl ?_ fun z hz => ?_
        · refine et_is (et_test (ev_op (ev_op (x := x) (ev_var (i := 5) rfl) ev_c (by rw [er]; exact rv_ixT (v := .int p.1) (st_of hrr) rfl)) (ev_var (i := 4) rfl) (rv_niL (sq_of (e3 _ _ h2)) rfl row_flat))) ?_
          rw [row_in]
          simp only [addD, dQ, dR, List.map_cons, List.map_nil]
          by_cases h : p.1 ∈ c.map (·.1) <;> simp only [h, decide_true, decide_false, if_true, if_false, Option.isSome_none, Option.isSome_some, Bool.not_true, Bool.not_false]
        · simp only [addD, dQ, dR, List.map_cons, List.map_nil] at hz
          split at hz
          · cases hz
          · have := Option.some.inj hz
            subst this
            have := es_tu (etu_cat (K := K) (etu_da (ev_var (i := 3) (σ := [some (.ref a), some (.ref b), some (.ref l), some (.ref t), some (.ref u), some x]) rfl) (hd2.ex (e02.trans e3))) (etu_1 (es_da (ev_var (i := 5) rfl) hx3)) (by rw [List.length_map]; show c.length + 1 ≤ 1000; omega))
            rw [show dP (c ++ [(p.1, p.2)]) = .tuple (c.map dQ ++ [dQ p]) by simp [dP]]
            exact this
      have hzl := hz'.length
      rw [List.length_map] at hzl
      have hll := longer_len (Ps := Ps) (F.take i)
      rw [List.length_take, Nat.min_eq_left (Nat.le_of_lt hi)] at hll
      have hll2 : i * Ps.length ≤ 3000 * 14 := Nat.mul_le_mul (by omega) hP
      have hfl := List.length_filter_le (newP c) Ps
      refine s_extDa (l := l) (xs := zs) (e2 _ _ hl') (ev_var (i := 2) rfl) (eld_is (eld_lc (K := K) (addD c) (ev_var (i := 1) rfl) (sq_of (e02 _ _ hb)) (hdb.ex e02) (by rw [List.length_map]; omega) T2) add_pairs) (by rw [List.length_map, List.length_map]; omega) (fun ys' H3 e3 d3 => ?_)
      have k3 := tk_lst (zs := zs ++ ys') (e3 _ _ (e2 _ _ hl'))
      refine ⟨zs ++ ys', _, _, rfl, Ex.mut (e02.trans e3) hl, upd_same, ?_⟩
      rw [longer_take hc1, List.map_append]
      exact DaL.app ((hz'.ex (e2.trans e3)).keep k3) (d3.keep k3)
    · subst hσ
      have hxl := hd.length
      rw [List.length_map] at hxl
      rw [hxl, List.take_length] at hz'
      exact s_ret (v := .ref l) (ev_var (i := 2) rfl) (fun H3 e3 => q l H3 zs hl (he.trans e3) (e3 _ _ hl') (hz'.ex e3))
end
end Fs

set_option Elab.async false
set_option linter.all false
set_option maxRecDepth 100000
set_option maxHeartbeats 8000000
/-! the law's own seatings, seat by seat -/
namespace Fs
open PySem PyProof.Rows L2 Evl FsE FsC FsR FsK FsV FsG FsW FsD LamX
theorem bfs_len {rs : List Ent} (h : rs.length ≤ 14) : ∀ k : Nat, (bfs rs k).length ≤ 14 ^ k
  | 0 => Nat.le_refl _
  | k + 1 => by
    have ih := bfs_len h k
    have h1 := longer_len (Ps := pairsAt rs k) (bfs rs k)
    have h2 := pairs_len (es := rs) (k := k)
    refine Nat.le_trans h1 (Nat.le_trans (Nat.mul_le_mul ih (Nat.le_trans h2 h)) ?_)
    rw [Nat.pow_succ]
    exact Nat.le_refl _
theorem bfs_mem {rs : List Ent} : ∀ {k : Nat}, ∀ c ∈ bfs rs k, c.length = k
  | 0, c, h => by
    rw [List.mem_singleton.mp h]
    rfl
  | k + 1, c, h => longer_mem (fun d hd => bfs_mem d hd) c h
def seatF (i : Nat) : PyData → Option PyData
  | .tuple [.int m, .int p, .int s] => if s = (i : Int) then some (dR [m, p]) else none
  | _ => none
theorem seat_map {i : Nat} : ∀ {es : List Ent}, (es.map dE).filterMap (seatF i) = (pairsAt es i).map dQ
  | [] => rfl
  | e :: es => by
    have ih := seat_map (i := i) (es := es)
    unfold pairsAt at ih ⊢
    rw [List.map_cons, List.filterMap_cons]
    by_cases h : e.2.2 = (i : Int)
    · rw [List.filter_cons_of_pos (by simp [h]), show seatF i (dE e) = some (dR [e.1, e.2.1]) by simp only [seatF, dE, dR, List.map_cons, List.map_nil, if_pos h]]
      rw [List.map_cons, List.map_cons, ← ih]
    · rw [List.filter_cons_of_neg (by simp [h]), show seatF i (dE e) = none by simp only [seatF, dE, dR, List.map_cons, List.map_nil, if_neg h]]
      exact ih
section
variable {P : Program} {w : World} {K : PySem.W.Frag} {mg : Str → Option Value} {base : Heap}
/-- _law_seatings(seats, entries) -/
def spSeats : Sp := fun vs H Q _ => ∃ (n : Nat) (l : Addr) (xs : List V) (es : List Ent), vs = [.int (n : Int), .ref l] ∧ n ≤ 4 ∧ H l = some (.lst xs) ∧ DaL H xs (es.map dE) ∧ EsOk es ∧ es.length ≤ 14 ∧
  ∀ (p : Addr) (H2 : Hp) (zs : List V), Ex H H2 → H2 p = some (.lst zs) → DaL H2 zs ((bfs (sortE es) n).map dP) → Q (.ref p) H2
abbrev nsSeats : List Str := ["_law_seats", "_law_entries", "_law_found", "_law_seat", "_law_one"]
theorem scSeats : FnScope nsSeats ["_law_seats", "_law_entries"] (defScope (topS 11)) := ⟨rfl, rfl, rfl, by decide +kernel, rfl, by decide +kernel, by decide +kernel⟩
theorem ok_seats {f : Addr} {fd : FuncData} (F : Fun K "_law_seatings" "_law_seatings" (topS 11) f fd) (GL : CalX P w K mg base CX0 1 "_law_longer" spLonger) (T : SeaT K mg) : FnOk P w K mg base CX0 3 f fd ["_law_seats", "_law_entries"] spSeats := by
  refine F.ok scSeats (fun vs H Q E h => ?_) (fun cdv A outer s H vs Q E hr h => ?_)
  · obtain ⟨n, l, xs, es, rfl, _⟩ := h
    rfl
  · obtain ⟨n, l, xs, es, rfl, hn, hl, hd, ok, h14, q⟩ := h
    refine ⟨_, pss_cons (ps_set (i := 2) scSeats.nd rfl (Or.inl rfl) (pe_lst (pa_cons (pe_tup pa_nil) pa_nil)))
      (pss_cons (ps_for PassesOwn.never rfl (pi_range1 rfl T.range (pa_cons (pv 0) pa_nil)) (pg_name (i := 3) scSeats.nd rfl (Or.inr rfl))
        (pss_one (ps_set (i := 2) scSeats.nd rfl (Or.inl rfl) (pe_cx (E := fun _ => E0) GL hr (by decide) (by rfl) at0 (pa_cons (pv 2) (pa_cons (pe_callB (cr_sortT (d := 2) (B := 8) (by decide)) (by rfl) T.sorted boot_sorted (pa_cons
          (pe_lc (own := [("_law_one", 4)]) (g := gName 4) (tt := tTest (tOp rEq (tOp (rIxT K) (tVar 4) (tC (.int 2))) (tVar 3))) (te := tTup (tCons (tOp (rIxT K) (tVar 4) (tC (.int 0))) (tCons (tOp (rIxT K) (tVar 4) (tC (.int 1))) tNil))) rfl scSeats.nd (pi_list (pv 1)) (blkOk_by (own := [("_law_one", 4)]) (N := nsSeats) (sc := defScope (topS 11)) (by decide +kernel))
            (fun _ _ _ _ _ => pg_name (i := 4) scSeats.nd rfl (.inl rfl)) (fun _ _ _ _ _ => pts_one (pt_cmpR op_eq (pe_ix ix_tup (pv 4) pe_int (fun _ _ => rfl)) (pv 3) (nomark _))) (fun _ _ _ _ _ => pe_tup (pa_cons (pe_ix ix_tup (pv 4) pe_int (fun _ _ => rfl)) (pa_cons (pe_ix ix_tup (pv 4) pe_int (fun _ _ => rfl)) pa_nil)))) pa_nil)) pa_nil))))))
      (pss_one (ps_ret (pv 2)))), ?_⟩
    have hs14 : (sortE es).length ≤ 14 := by rw [(sortE_perm es).length_eq]; exact h14
    refine q_asgLD (i := 2) (σ := [some (.int (n : Int)), some (.ref l), none, none, none]) (eld_1 (es_tu etu_nil)) (fun p0 H1 ys0 hp0 e1 h1 d1 => ?_)
    refine q_forR1 (n := (n : Int)) (σ := [some (.int (n : Int)), some (.ref l), some (.ref p0), none, none]) (ea_cons (ev_var (i := 0) rfl) ea_nil) (by omega)
      (fun i σ' H' => ∃ (p : Addr) (zs : List V) (v3 : Option V), σ' = [some (.int (n : Int)), some (.ref l), some (.ref p), v3, none] ∧ Ex H H' ∧ H' p = some (.lst zs) ∧ DaL H' zs ((bfs (sortE es) i).map dP))
      (fun H2 e2 => ⟨p0, ys0, none, rfl, e1.trans e2, e2 _ _ h1, d1.ex e2⟩) (fun i σ' H' hi ⟨p, zs, v3, hσ, he, hp, hz⟩ => ?_) (fun σ' H' ⟨p, zs, v3, hσ, he, hp, hz⟩ => ?_)
    · subst hσ
      have hi4 : i < 4 := by omega
      have T0 : LcTurn (gName 4) (tTest (tOp rEq (tOp (rIxT K) (tVar 4) (tC (.int 2))) (tVar 3))) (tTup (tCons (tOp (rIxT K) (tVar 4) (tC (.int 0))) (tCons (tOp (rIxT K) (tVar 4) (tC (.int 1))) tNil))) [4] [some (.int (n : Int)), some (.ref l), some (.ref p), some (.int (i : Int)), none] H' (es.map dE) (seatF i) := fun x d H2 Q2 e2 hx hm k => by
        obtain ⟨e, hee, rfl⟩ := List.mem_map.mp hm
        obtain ⟨u, rfl, hu⟩ := da_ent hx
        refine k [some (.int (n : Int)), some (.ref l), some (.ref p), some (.int (i : Int)), some (.ref u)] rfl ?_ fun z hz => ?_
        · refine et_is (et_test (ev_op (x := .int e.2.2) (ev_op (ev_var (i := 4) rfl) ev_c (rv_ixT (st_of hu) rfl)) (ev_var (i := 3) rfl) (rv_eq rfl))) ?_
          simp only [seatF, dE, dR, List.map_cons, List.map_nil]
          by_cases h : e.2.2 = (i : Int) <;> simp [h]
        · simp only [seatF, dE, dR, List.map_cons, List.map_nil] at hz
          split at hz
          · have := Option.some.inj hz
            subst this
            exact es_tu (etu_2 (es_int (ev_op (ev_var (i := 4) rfl) ev_c (rv_ixT (st_of hu) rfl))) (es_int (ev_op (ev_var (i := 4) rfl) ev_c (rv_ixT (st_of hu) rfl))))
          · cases hz
      have hlen := bfs_len hs14 i
      have h143 : 14 ^ i ≤ 14 ^ 3 := Nat.pow_le_pow_right (by decide) (by omega)
      refine ⟨.ref p, rfl, (eld_sortedP (K := K) ok (eld_is (eld_lc (K := K) (seatF i) (ev_var (i := 1) (σ := [some (.int (n : Int)), some (.ref l), some (.ref p), some (.int (i : Int)), none]) rfl) (sq_of (he _ _ hl)) (hd.ex he) (by rw [List.length_map]; omega) T0) seat_map)) H' (Ex.refl H') _ fun b ys H2 nb e2 h2 d2 => ?_⟩
      refine ⟨p, b, zs, ys, bfs (sortE es) i, pairsAt (sortE es) i, rfl, e2 _ _ hp, hz.ex e2, h2, d2, Nat.le_trans hlen (Nat.le_trans h143 (by decide)), Nat.le_trans pairs_len hs14, fun c hc => by rw [bfs_mem c hc]; omega, fun r H3 us hr e3 h3 d3 => ?_⟩
      exact ⟨r, us, _, rfl, (he.trans e2).trans e3, h3, d3⟩
    · subst hσ
      exact s_ret (v := .ref p) (ev_var (i := 2) rfl) (fun H3 e3 => q p H3 zs (he.trans e3) (e3 _ _ hp) (hz.ex e3))
end
end Fs

set_option Elab.async false
set_option linter.all false
set_option maxRecDepth 100000
set_option maxHeartbeats 2000000
/-! list(g) of such a generator -/
namespace FsA
open PySem PySem.Spec PyProof.Rows GenW L2 FsV FsE FsG Evl
section
variable {X : Cx} {k : Nat} {T : Hp → Prop}
/-- how it stands: so many are yet to come, the list holds the others -/
def Dr (X : Cx) (T : Hp → Prop) (pins : List (Addr × Obj)) (σ : L2.St) (H0 : Hp) (S : Addr) (L : List PyData) (m : Nat) (s : Shared) (H : Hp) : Prop :=
  Inv X pins σ H s ∧ ∃ ys, H S = some (.lst ys) ∧ DaL H ys (L.take (L.length - m)) ∧ LamX.ExtN H0 H ∧ T H
theorem Dr.ran {pins : List (Addr × Obj)} {σ : L2.St} {H0 : Hp} {n a g S : Addr} {L : List PyData} {m : Nat} {A : Around} {s₀ s : Shared} {Hs H : Hp} {W : List Addr} {Φ : Nat → Shared → Hp → Prop} (d : Dr X T pins σ H0 S L m s₀ Hs) (o : Older X pins n)
    (r : Sr ⟨X.prog, X.w, X.K, X.mg, X.base, A, X.stack, n, a, g, W, Φ, T, L⟩ Hs s₀ H s) : Dr X T pins σ H0 S L m s H := by
  obtain ⟨I, ys, h1, h2, h3, h4⟩ := d
  exact ⟨o.ran I r, ys, r.ext S _ h1 fun ps z => (by cases z), h2.keep fun b us q => r.ext b _ q fun ps z => (by cases z), h3.trans r.ext, r.tab⟩
theorem drain_A {pins : List (Addr × Obj)} {σ : L2.St} {H0 : Hp} {n a g S : Addr} {L : List PyData} {res : Value} {R : Result → Shared → Prop} {A : Around} (hfr : A.frames = some X.stack) (hh : A.handled = none) (hd : A.depth < recursionLimit)
    (o : Older X pins n) (hn : n ≤ a) (hS0 : H0 S = none) (hT : ∀ H ys zs, T H → H S = some (.lst ys) → T (upd H S (.lst zs))) (hlen : L.length ≤ sizeLine)
    (hend : ∀ s H, Dr X T pins σ H0 S L 0 s H → R (.ok (.ret res)) s) :
    ∀ (m : Nat) (s : Shared) (H Hy : Hp) (sy : Shared), m ≤ L.length → Dr X T pins σ H0 S L m s H → Rest ⟨X.prog, X.w, X.K, X.mg, X.base, A.in1.in1, X.stack, n, a, g, [S], fun m s H => Dr X T pins σ H0 S L m s H, T, L⟩ m Hy sy →
      Zz ⟨X.prog, X.w, X.K, X.mg, X.base, A.in1.in1, X.stack, n, a, g, [S], fun m s H => Dr X T pins σ H0 S L m s H, T, L⟩ m Hy sy H (s.setGen g .running) → s.gens[g]? = sy.gens[g]? → s.heap.IsGen a g →
      codeAny (model X.prog X.w) A (.builtin "list.extend.loop" ⟨[.ref S, .ref a, res], []⟩) R s := by
  let Gi : Gp := ⟨X.prog, X.w, X.K, X.mg, X.base, A.in1.in1, X.stack, n, a, g, [S], fun m s H => Dr X T pins σ H0 S L m s H, T, L⟩
  intro m
  induction m with
  | zero =>
    intro s H Hy sy hm dr rst z hgs hig
    refine codeAny_builtin PySem.F.entry_extend_loop ?_
    rw [Around.under_plainId PySem.F.plain_extend_loop _]
    show wpAny (model X.prog X.w) A.in1 (pyNext (.ref a) >>= _) _ _ s
    refine wpAny_bind (next_A (G := Gi) (L := []) rfl hh hd dr.1.nolimit hig hgs rst ⟨L, by simp [Gi]⟩ z (fun _ t₁ Ht H' t phi sr => ?_) (fun d L' x v t₁ Ht H' t h => by cases h))
    exact wpAny_pure (hend t H' (Dr.ran phi o sr))
  | succ m ih =>
    intro s H Hy sy hm dr rst z hgs hig
    have hi : L.length - (m + 1) < L.length := by omega
    have hdi : L.drop (L.length - (m + 1)) = L[L.length - (m + 1)] :: L.drop (L.length - (m + 1) + 1) := List.drop_eq_getElem_cons hi
    have hli : (L.drop (L.length - (m + 1))).length = m + 1 := by rw [List.length_drop]; omega
    refine codeAny_builtin PySem.F.entry_extend_loop ?_
    rw [Around.under_plainId PySem.F.plain_extend_loop _]
    show wpAny (model X.prog X.w) A.in1 (pyNext (.ref a) >>= _) _ _ s
    refine wpAny_bind (next_A (G := Gi) (L := L.drop (L.length - (m + 1))) rfl hh hd dr.1.nolimit hig hgs (by rw [hli]; exact rst) ⟨L.take _, (List.take_append_drop _ L).symm⟩ (by rw [hli]; exact z) (fun h => by rw [hdi] at h; cases h) (fun d L' x v t₁ Ht H' t hdl phi sr rv hda rst' hig' hid' hgl' => ?_))
    rw [hli] at phi
    rw [hdi] at hdl
    obtain ⟨rfl, rfl⟩ := List.cons.inj hdl
    obtain ⟨J, ys, h1, h2, h3, h4⟩ := Dr.ran phi o sr
    have hrest := rst'
    rw [show (L.drop (L.length - (m + 1) + 1)).length = m by rw [List.length_drop]; omega] at hrest
    have Jk := inv_keepers (n := n) J o.loc o.fs
    obtain ⟨_, its, c, r, hl, e⟩ := J.lstM h1
    have hys : ys.length = L.length - (m + 1) := by rw [h2.length, List.length_take]; omega
    have h1' : (ys ++ [x]).length ≤ sizeLine := by rw [List.length_append, hys]; show L.length - (m + 1) + 1 ≤ _; omega
    have J2 := Jk.lset (its' := its ++ [v]) (ys := ys ++ [x]) (f := (·.push v)) (t' := t.toks) h1 e (by simp) (r.append (.cons rv .nil)) h1'
    have hda' : DaL (upd H' S (.lst (ys ++ [x]))) (ys ++ [x]) (L.take (L.length - m)) := by
      have tk : TK H' (upd H' S (.lst (ys ++ [x]))) := fun b us q => by
        rw [upd_ne (fun z => by rw [z, h1] at q; cases q)]
        exact q
      rw [show L.length - m = L.length - (m + 1) + 1 by omega, ← List.take_append_getElem hi]
      exact (h2.keep tk).app (DaL.cons (hda.keep tk) DaL.nil)
    have ext' : LamX.ExtN H0 (upd H' S (.lst (ys ++ [x]))) := fun b u q hne => by
      rw [upd_ne (fun z => by rw [z, hS0] at q; cases q)]
      exact h3 b u q hne
    have tab' := hT H' ys (ys ++ [x]) h4 h1
    show wpAny (model X.prog X.w) A.in1 (updateSeq S (·.push v) >>= _) _ _ t
    refine wpAny_bind (wpAny_updateSeq e rfl (wpAny_pure ⟨plainId_quiet PySem.F.plain_extend_loop _, ?_⟩) (by rw [List.size_toArray, ← hl, hys]; omega) (by rw [Array.size_push, List.size_toArray, ← hl, hys]; omega))
    have drn : Dr X T pins σ H0 S L m { t with heap := t.heap.update S (Obj.mapSeq (·.push v)) } (upd H' S (.lst (ys ++ [x]))) := ⟨J2.unpinned, ys ++ [x], upd_same, hda', ext', tab'⟩
    refine ih _ (upd H' S (.lst (ys ++ [x]))) H' t (by omega) drn hrest ?_ rfl ?_
    · refine zz_again (X := X) (X' := X) (T := T) (g := g) (n := n) rfl J2 rfl rfl rfl rfl rfl hfr rfl (fun j _ _ => rfl) hgl' ⟨fun b u hb hu hne => ?_, fun b hb => ?_⟩ tab' ⟨inv_gens J2.unpinned rfl, ys ++ [x], upd_same, hda', ext', tab'⟩
      · rw [upd_ne (fun z => hb (by rw [z]; exact List.mem_singleton.mpr rfl))]
        exact hu
      · rw [List.mem_singleton.mp hb]
        exact ⟨_, upd_same⟩
    · obtain ⟨go, nm, qn, c1, c2, c3, c4⟩ := hig'
      exact ⟨go, nm, qn, (J2.pin (a, go) (List.mem_append_right _ (List.mem_append_right _ (mem_keepers hn hid' c1 fun v q => by rw [c3] at q; cases q)))).1, c2, c3, c4⟩
/-- list(g) of a generator just made -/
theorem list_A {pins : List (Addr × Obj)} {σ : L2.St} {H1 : Hp} {sc s : Shared} {L : List PyData} {u : Value} {Q : Value → Shared → Prop} {E1 : Value → Shared → Prop} (hr : Room (k + 3) X.A) (I1 : Inv X pins σ H1 sc) (G : GMadeA X.prog X.w X.K X.mg X.base k T X.stack H1 sc [] L u s)
    (hT0 : T H1) (hTn : ∀ H S zs, T H → H S = none → T (upd H S (.lst zs))) (hT : ∀ H S ys zs, T H → H S = some (.lst ys) → T (upd H S (.lst zs))) (hlen : L.length ≤ sizeLine)
    (hQ : ∀ S ys H s', H1 S = none → Inv X pins σ H s' → H S = some (.lst ys) → DaL H ys L → LamX.ExtN H1 H → T H → Q (.ref S) s') :
    wpAny (model X.prog X.w) X.A (call (.type "list") [u]) Q E1 s := by
  obtain ⟨a, g, rfl, ha1, ha2, hgen, hgl, hsz, hold, hos, hbare, hkp, rest⟩ := G
  have o0 := older I1
  have J1 : Inv X pins σ H1 s := I1.call' (ch := []) hos (Un.kept hkp) (I1.hok.kept hkp) hbare fun b z => by simp at z
  have hlim : s.heap.NoLimit := J1.nolimit
  have hS1 : H1 s.heap.objs.size = none := I1.hok.fresh (Nat.le_trans ha1 (Nat.le_of_lt ha2))
  have hSa : s.heap.objs.size ≠ a := Nat.ne_of_gt ha2
  refine callType_codes (Q₁ := fun ob t => ob = .ref s.heap.objs.size ∧ t = { s with heap := s.heap.push { cls := .type "list", data := .seq #[] } }) PySem.F.called_list (PySem.F.typeCall_list_1 _) PySem.F.entry_list_init
    (code_list_new _ ⟨rfl, rfl⟩) fun ob t ht => ?_
  obtain ⟨rfl, rfl⟩ := ht
  have e0 : (s.heap.push { cls := .type "list", data := .seq #[] }).get? s.heap.objs.size = some { cls := .type "list", data := .seq #[] } := Heap.get?_push_size _ rfl
  refine ⟨⟨_, e0, rfl⟩, PySem.F.args_list_init_2 _ _, ?_⟩
  show wpAny _ X.A.in1.in1 (do let old ← Builtin.List.listItems (.ref s.heap.objs.size); Builtin.List.listUpdate (.ref s.heap.objs.size) (fun _ => #[]); letGo old.toList.reverse; Builtin.List.listExtendWith (.ref s.heap.objs.size) (.ref a) .none) _ _ _
  refine wpAny_bind ?_
  unfold Builtin.List.listItems
  refine wpAny_bind (wpAny_seqItems e0 rfl (wpAny_pure ?_))
  show wpAny _ X.A.in1.in1 (updateSeq s.heap.objs.size (fun _ => #[]) >>= fun _ => letGo (#[] : Array Value).toList.reverse >>= fun _ => Builtin.List.listExtendWith (.ref s.heap.objs.size) (.ref a) .none) _ _ _
  refine wpAny_bind (wpAny_updateSeq e0 rfl ?_)
  have e1 := Heap.get?_update_self (Obj.mapSeq (fun _ => (#[] : Array Value))) e0 rfl
  refine wpAny_bind (wpAny_letGo ?_)
  unfold Builtin.List.listExtendWith
  have upk : ∀ (h : Heap) (fo : Obj → Obj), (∀ b o, s.heap.get? b = some o → h.get? b = some o) → ∀ b o, s.heap.get? b = some o → (h.update s.heap.objs.size fo).get? b = some o := fun h fo q b o z =>
    (Heap.get?_update_other _ _ (Nat.ne_of_gt (Heap.lt_size z))).trans (q b o z)
  have kp1 : ∀ b o, s.heap.get? b = some o → (s.heap.push { cls := .type "list", data := .seq #[] }).get? b = some o := fun b o z => Heap.get?_push_of_some _ z
  have kp2 := upk _ (Obj.mapSeq (fun _ => (#[] : Array Value))) kp1
  have isg : ∀ {h : Heap}, (∀ b o, s.heap.get? b = some o → h.get? b = some o) → h.IsGen a g := fun {h} q => hgen.keeps q
  refine wpAny_bind (wpAny_typeOf (Heap.IsGen.typeIs (s := { s with heap := _ }) (isg kp2)) ?_)
  have c1 : Builtin.List.listSameRef (.ref s.heap.objs.size) (.ref a) = false := by simp [Builtin.List.listSameRef, hSa]
  have c2 : (Value.type "generator" == Value.type "list") = false := by decide
  have c3 : (Value.type "generator" == Value.type "tuple") = false := by decide
  simp only [c1, c2, c3, Bool.or_false, Bool.false_eq_true, if_false]
  refine wpAny_bind (wpAny_pyIter_gen (s := { s with heap := _ }) (isg kp2) ?_)
  refine wpAny_bind (wpAny_holding ?_)
  unfold Builtin.List.listLengthHint
  refine wpAny_bind (wpAny_specialOf (Heap.IsGen.typeIs (s := { s with heap := _ }) (isg kp2)) PySem.F.gen_no_len ?_)
  show wpAny _ X.A.in1.in1 (specialOf (Value.ref a) (Str.ofString "__length_hint__") >>= _) _ _ _
  refine wpAny_bind (wpAny_specialOf (Heap.IsGen.typeIs (s := { s with heap := _ }) (isg kp2)) PySem.F.gen_no_hint ?_)
  refine wpAny_pure ?_
  show wpAny _ X.A.in1.in1 (rule "list.extend.makes-room" >>= fun _ => Builtin.List.listTouch (.ref s.heap.objs.size) >>= fun _ =>
    again (.builtin "list.extend.loop" ⟨[.ref s.heap.objs.size, .ref a, .none], []⟩)) _ _ _
  refine wpAny_bind (wpAny_rule ?_)
  refine wpAny_bind ?_
  show wpAny _ X.A.in1.in1 (updateSeq s.heap.objs.size (·.push .none) >>= fun _ => updateSeq s.heap.objs.size (·.pop)) _ _ _
  refine wpAny_bind (wpAny_updateSeq e1 rfl ?_)
  have e2 := Heap.get?_update_self (Obj.mapSeq (·.push Value.none)) e1 rfl
  refine wpAny_updateSeq (hz := by seq_fits) e2 rfl ?_
  have e3 := Heap.get?_update_self (Obj.mapSeq (·.pop)) e2 rfl
  have kp4 := upk _ (Obj.mapSeq (·.pop)) (upk _ (Obj.mapSeq (·.push Value.none)) kp2)
  refine wpAny_pure ⟨plainId_quiet PySem.F.plain_extend_loop _, ?_⟩
  generalize hh2 : (((s.heap.push { cls := .type "list", data := .seq #[] }).update s.heap.objs.size (Obj.mapSeq fun _ => (#[] : Array Value))).update s.heap.objs.size (Obj.mapSeq (·.push Value.none))).update s.heap.objs.size (Obj.mapSeq (·.pop)) = h2 at *
  have JS : Inv X pins σ (upd H1 s.heap.objs.size (.lst [])) { s with heap := h2 } := by
    refine J1.laid (t' := s.toks) (a := s.heap.objs.size) (o := .lst []) (fun b ob z => kp4 b ob z) (Nat.le_refl _) ?_
    exact ⟨by decide, [], _, .nil, e3⟩
  have ext0 : LamX.ExtN H1 (upd H1 s.heap.objs.size (.lst [])) := fun b ob z _ => by
    rw [upd_ne (fun q => by rw [q, hS1] at z; cases z)]
    exact z
  have tab0 := hTn H1 s.heap.objs.size [] hT0 hS1
  have dr0 : Dr X T pins σ H1 s.heap.objs.size L L.length { s with heap := h2 } (upd H1 s.heap.objs.size (.lst [])) := ⟨JS, [], upd_same, by rw [Nat.sub_self, List.take_zero]; exact DaL.nil, ext0, tab0⟩
  refine drain_A (pins := pins) (σ := σ) (H0 := H1) (n := sc.heap.objs.size) (A := X.A.in1) (T := T) I1.ok.frames hr.hd (by have := hr.dp; show X.A.depth < _; omega) o0 ha1 hS1 (fun H ys zs t q => hT H _ ys zs t q) hlen (fun s' H d => ?_)
    L.length _ (upd H1 s.heap.objs.size (.lst [])) H1 s (Nat.le_refl _) dr0 (rest X.A.in1.in1.in1 _ [s.heap.objs.size] (fun b hb => .inr (by rw [List.mem_singleton.mp hb]; exact Nat.le_refl _)) ⟨hr.hd, by have := hr.dp; show X.A.depth + 3 * k + 5 < _; omega, by have := hr.un; show X.A.units + 1 + 1 + 1 + 16 * k + 200 < _; omega⟩ I1.ok.frames) ?_ rfl (isg kp4)
  · obtain ⟨J, ys, h1, h2', h3, h4⟩ := d
    exact ⟨rfl, hQ _ ys H s' hS1 J h1 (by rw [Nat.sub_zero, List.take_length] at h2'; exact h2') h3 h4⟩
  · have Jk : Inv X (pins ++ keepers sc.heap.objs.size H1 s.heap) σ (upd H1 s.heap.objs.size (.lst [])) { s with heap := h2 } := by
      refine (inv_keepers (n := sc.heap.objs.size) J1 o0.loc o0.fs).laid (t' := s.toks) (a := s.heap.objs.size) (o := .lst []) (fun b ob z => kp4 b ob z) (Nat.le_refl _) ?_
      exact ⟨by decide, [], _, .nil, e3⟩
    refine zz_again (X := X) (X' := X) (T := T) (g := g) (n := sc.heap.objs.size) rfl Jk rfl rfl rfl rfl rfl I1.ok.frames rfl (fun j _ _ => rfl) hgl ⟨fun b ob hb z hne => ext0 b ob z hne, fun b hb => ?_⟩ tab0 ⟨inv_gens JS rfl, [], upd_same, by rw [Nat.sub_self, List.take_zero]; exact DaL.nil, ext0, tab0⟩
    rw [List.mem_singleton.mp hb]
    exact ⟨_, upd_same⟩
def tListA (T : Hp → Prop) (tg : TGenA) : TE := fun σ H Q => tg [] σ H fun L H1 => T H1 ∧ L.length ≤ sizeLine ∧ ∀ S ys H2, H1 S = none → H2 S = some (.lst ys) → DaL H2 ys L → LamX.ExtN H1 H2 → T H2 → Q (.ref S) H2
theorem pe_listA {e : Expr} {tg : TGenA} {nm : Str} {p pos : Pos} (h : PGenA X k T e tg) (hr : Room (k + 3) X.A) (hTn : ∀ H S zs, T H → H S = none → T (upd H S (.lst zs))) (hT : ∀ H S ys zs, T H → H S = some (.lst ys) → T (upd H S (.lst zs))) (hg : Gl X nm) (hmg : X.mg nm = none) (hv : bootBuiltins nm = some (.type "list"))
    (hnm : nm ≠ "__name__" := by decide) (hdb : (nm == ("__debug__" : Str)) = false := by decide) (he : starEach [e] X.env = (false, eval e X.env) :: starEach [] X.env := by rfl) : PE X (.Call (.Name nm p) [e] [] pos) (tListA T tg) := by
  refine ⟨fun pins s σ H Q I hq => ?_⟩
  refine wpAny_Call_Name_kw (ld_blt I hg hmg hv ?_ hnm hdb)
  refine PyProof.Rows.callWith_type1 ?_ he rfl
  rw [he]
  show wpAny _ _ (spliced ((false, eval e X.env) :: backTo pos (starEach [] X.env))) _ _ s
  refine Calls.spliced_cons (thn (h.run pins s σ H [] _ I hq) fun u s1 ⟨H1, sc, L, I1, _, hG, t1, hlen, q⟩ => ?_)
  refine Calls.spliced_nil ?_
  exact list_A hr I1 hG t1 hTn hT hlen fun S ys H2 s' a1 a2 a3 a4 a5 a6 => ⟨.ref S, H2, a2, rfl, q S ys H2 a1 a3 a4 a5 a6⟩
end
end FsA

set_option Elab.async false
set_option linter.all false
set_option maxRecDepth 100000
set_option maxHeartbeats 8000000
/-! the law -/
namespace Fs
open PySem PyProof.Rows L2 Evl FsE FsC FsR FsK FsV FsG FsW FsD LamX FsA
section
variable {σ : L2.St} {H : Hp} {te ta tb : TE} {K : PySem.W.Frag}
theorem el_catNil {l : Addr} {xs : List V} (h : Ev ta σ H (.ref l)) (hl : H l = some (.lst xs)) (hz : xs.length ≤ 100000) : EvL (tOp rCat ta (tLst tNil)) σ H xs := fun H1 e Q q => h H1 e _ fun H2 e2 => ⟨(show 0 ≤ sizeLine by decide), fun p hp =>
  ⟨l, p, xs, [], rfl, rfl, (Ex.new hp) _ _ ((e.trans e2) _ _ hl), upd_same, sz_of hz, fun r hr => q r _ (fresh_back (e2.trans (Ex.new hp)) hr) ((e2.trans (Ex.new hp)).trans (Ex.new hr)) (by rw [upd_same, List.append_nil])⟩⟩
theorem da_rev {H : Hp} : ∀ {ds : List PyData} {xs : List V}, DaL H xs ds → DaL H xs.reverse ds.reverse
  | [], xs, h => by
    unfold DaL at h
    subst h
    exact DaL.nil
  | d :: ds, xs, h => by
    unfold DaL at h
    obtain ⟨v, vs, rfl, h1, h2⟩ := h
    rw [List.reverse_cons, List.reverse_cons]
    exact (da_rev h2).app (DaL.cons h1 DaL.nil)
theorem eld_turn {l : Addr} {xs : List V} {ds : List PyData} (h : Ev te σ H (.ref l)) (hl : H l = some (.lst xs)) (hd : DaL H xs ds) : EvLD (tRevL K te) σ H ds.reverse := fun H1 e Q q =>
  h H1 e _ fun H2 e2 => ⟨l, xs, rfl, sq_of ((e.trans e2) _ _ hl), fun p hp => q p _ _ (fresh_back e2 hp) (e2.trans (Ex.new hp)) upd_same (da_rev (hd.ex ((e.trans e2).trans (Ex.new hp))))⟩
/-- two lists of the same data are equal -/
theorem sameD {a b : Addr} {xs ys : List V} {ds : List PyData} (ha : H a = some (.lst xs)) (hb : H b = some (.lst ys)) (da : DaL H xs ds) (db : DaL H ys ds) (hs : SeqAt.shaped (.list ds) = true) {Q : VK} (q : Q (.bl true) H) : rEqD K (.ref a) (.ref b) H Q :=
  ⟨.list ds, .list ds, .lst (sq_of ha) (dp_dal da), .lst (sq_of hb) (dp_dal db), hs, hs, by rw [SeqAt.eqv_refl _ (SeqAt.canLay_of_shaped hs)]; exact q⟩
end
theorem lay_all : ∀ {ds : List PyData}, (∀ d ∈ ds, d.canLay0 = true) → PyData.canLayAll0 ds = true
  | [], _ => by simp [PyData.canLayAll0]
  | d :: ds, h => by
    have h1 := h d (List.mem_cons_self ..)
    have h2 := lay_all fun d hd => h d (List.mem_cons_of_mem _ hd)
    simp [PyData.canLayAll0, h1, h2]
theorem shape_list {k : Nat} {ds : List PyData} (h : ∀ d ∈ ds, Pk k d) (hk : k ≤ 60) : SeqAt.shaped (.list ds) = true := by
  show ((PyData.list ds).canLay0 && decide ((PyData.list ds).depth ≤ 64)) = true
  have h1 : (PyData.list ds).canLay0 = true := by simp [PyData.canLay0, lay_all fun d hd => lay_pl _ (h d hd).1]
  have h2 := depthAll_le fun d hd => (h d hd).2
  have h3 : (PyData.list ds).depth ≤ 64 := by
    simp only [PyData.depth]
    omega
  rw [h1, decide_eq_true h3]
  rfl
theorem turn_sort {es : List Ent} (ok : EsOk es) : sortE es.reverse = sortE es := sortE_uniq ok ((sortE_perm es.reverse).trans (List.reverse_perm es)) (sortE_sorted es.reverse)
/-- a list that is written keeps the tables -/
theorem tabs_lst {PT S : Addr} {H : Hp} {ys zs : List V} (t : Tabs (tabQ PT) H) (h : H S = some (.lst ys) ∨ H S = none) : Tabs (tabQ PT) (upd H S (.lst zs)) := fun p hp => by
  obtain ⟨ps, h1, h2, h3⟩ := t p hp
  have ne : ∀ {b : Addr} {o : HO}, H b = some o → (∀ us, o ≠ .lst us) → b ≠ S := fun {b o} e hn z => by
    subst z
    rcases h with h | h
    · rw [h] at e
      cases e
      exact hn _ rfl
    · rw [h] at e
      cases e
  refine ⟨ps, by rw [upd_ne (ne h1 fun us z => by cases z)]; exact h1, h2, fun pos cv hc => ?_⟩
  obtain ⟨c, e1, e2⟩ := h3 pos cv hc
  exact ⟨c, e1, by rw [upd_ne (ne e2 fun us z => by cases z)]; exact e2⟩
structure LawS (mg : Str → Option Value) : Prop where
  isinst : mg "isinstance" = none
  tuple : mg "tuple" = none
  list : mg "list" = none
section
variable {P : Program} {w : World} {K : PySem.W.Frag} {mg : Str → Option Value} {base : Heap}
def spLaw (K : PySem.W.Frag) (PT : Addr) : Sp := fun vs H Q _ => ∃ (a : Addr) (ns : List Int), vs = [.ref a] ∧ SqL K H a (ns.map V.int) ∧ H PT = some (.tbl #[]) ∧ ∀ H2, Q (.bl true) H2
abbrev nsLaw : List Str := ["_law_script", "_law_seats", "_law_entries", "_law_passed", "_law_found", "_law_seating", "_law_again"]
theorem scLaw : FnScope nsLaw ["_law_script"] (defScope (topS 12)) := ⟨rfl, rfl, rfl, by decide +kernel, rfl, by decide +kernel, by decide +kernel⟩
theorem ok_law {f g PT : Addr} {fd gd : FuncData} (F : Fun K "law" "law" (topS 12) f fd) (T : LawT K mg) (TS' : LawS mg) (GC : CalX P w K mg base CX0 1 "_law_cell_at" (spCellAt K)) (GR : CalX P w K mg base CX0 2 "_law_row" spRow) (GD : CalX P w K mg base CX0 1 "_law_drawn" (spDrawn K))
    (hm : mg "seatings" = some (.ref g)) (kp : PySem.W.keepIn K (.ref g) = true) (bi : Binds K gd ["seats", "entries"] []) (GG : GFnA P w K mg base 15 (Tabs (tabQ PT)) g gd ["seats", "entries"] (spGenA 4))
    (GS : CalX P w K mg base CX0 3 "_law_seatings" spSeats) : FnOk P w K mg base CX0 20 f fd ["_law_script"] (spLaw K PT) := by
  refine F.ok scLaw (fun vs H Q E h => ?_) (fun cdv A outer s H vs Q E hr h => ?_)
  · obtain ⟨a, ns, rfl, _⟩ := h
    rfl
  · obtain ⟨a, ns, rfl, hS, hP, q⟩ := h
    have hTn : ∀ (H : Hp) (S : Addr) (zs : List V), Tabs (tabQ PT) H → H S = none → Tabs (tabQ PT) (upd H S (.lst zs)) := fun H S zs t h => tabs_lst (ys := []) t (.inr h)
    have hTl : ∀ (H : Hp) (S : Addr) (ys zs : List V), Tabs (tabQ PT) H → H S = some (.lst ys) → Tabs (tabQ PT) (upd H S (.lst zs)) := fun H S ys zs t h => tabs_lst (ys := ys) t (.inl h)
    refine ⟨_, pss_cons (ps_asg (pe_cx (E := fun _ => E0) GD hr (by decide) (by rfl) at0 (pa_cons (pe_cx (E := fun _ => E0) GR hr (by decide) (by rfl) at0 (pa_cons (pe_cx (E := fun _ => E0) GC hr (by decide) (by rfl) at0 (pa_cons (pv 0) (pa_cons pe_int pa_nil))) (pa_cons pe_int pa_nil))) pa_nil)) (pg_tup rfl (pgs_cons (pg_name (i := 1) scLaw.nd rfl (.inl rfl)) (pgs_cons (pg_name (i := 2) scLaw.nd rfl (.inl rfl)) pgs_nil))))
      (pss_cons (ps_set (i := 3) scLaw.nd rfl (Or.inl rfl) (pe_op op_cat (pv 2) (pe_lst pa_nil)))
      (pss_cons (ps_set (i := 4) scLaw.nd rfl (Or.inl rfl) (pe_lst pa_nil))
      (pss_cons (ps_forA (T := Tabs (tabQ PT)) PassesOwn.never rfl (pgenA_call (dvs := []) GG (hr.mono (by decide)) (by rfl) hm kp bi .nil (pa_cons (pv 1) (pa_cons (pv 3) pa_nil))) (hr.mono (by decide)) (pgk_name (i := 5) scLaw.nd rfl)
        (pssk_cons (psk_if (ptk_not (ptk_val (pek_isT (by rfl) TS'.isinst (pak_cons (pkv 5) (pak_cons (pek_ty (T := "tuple") (by rfl) TS'.tuple (by decide +kernel)) pak_nil))))) pssk_never pssk_nil)
        (pssk_cons (psk_expr (pek_append (pkv 4) (pak_cons (pkv 5) pak_nil))) pssk_nil)))
      (pss_cons (ps_set (i := 6) scLaw.nd rfl (Or.inl rfl) (pe_listA (T := Tabs (tabQ PT)) (pgenA_call (dvs := []) GG (hr.mono (by decide)) (by rfl) hm kp bi .nil (pa_cons (pv 1) (pa_cons (pe_revL (pv 2)) pa_nil))) (hr.mono (by decide)) hTn hTl (by rfl) TS'.list (by decide +kernel)))
      (pss_one (ps_ret (pe_and (pe_cmpR (op_eqD hr.units) (pv 4) (pe_cx (E := fun _ => E0) GS hr (by decide) (by rfl) at0 (pa_cons (pv 1) (pa_cons (pv 2) pa_nil))) (nomark _))
        (pe_and (pe_cmpR (op_eqD hr.units) (pv 6) (pv 4) (nomark _)) (pe_one (pe_cmpR (op_eqD hr.units) (pv 3) (pv 2) (nomark _))))))))))), ?_⟩
    refine ⟨.ref a, rfl, a, ns, 0, rfl, hS, fun c H1 e1 => ⟨c, 15, rfl, by decide, fun row hlen hrow r H2 hr2 e2 h2 => ⟨r, row, rfl, sq_of h2, hlen, hrow, fun t l n xs es H3 e3 hl ht n1 n4 hl3 hd3 ok h14 hnd hlt => ?_⟩⟩⟩
    refine ⟨t, _, rfl, st_of ht, rfl, _, _, rfl, _, _, rfl, rfl, ?_⟩
    have hT0 : Tabs (tabQ PT) H := fun p hp => by
      rw [List.mem_singleton.mp hp]
      exact TabS.nil hP
    have hT3 := ((hT0.ext e1).ext e2).ext e3
    have lenx : xs.length = es.length := by rw [hd3.length, List.length_map]
    refine q_asgL (i := 3) (σ := [some (.ref a), some (.int (n : Int)), some (.ref l), none, none, none, none]) (el_catNil (ev_var (i := 2) rfl) hl3 (by omega)) (fun p H4 hp e4 h4 => ?_)
    refine q_asgL (i := 4) (xs := []) (σ := [some (.ref a), some (.int (n : Int)), some (.ref l), some (.ref p), none, none, none]) (el_lst ea_nil (by decide)) (fun k H5 hk e5 h5 => ?_)
    have hl5 := e5 _ _ (e4 _ _ hl3)
    have hp5 := e5 _ _ h4
    have hd5 := hd3.ex (e4.trans e5)
    have hlk : l ≠ k := fun z => by rw [z] at hl3; rw [e4 _ _ hl3] at hk; cases hk
    have hpk : p ≠ k := fun z => by rw [z] at h4; rw [h4] at hk; cases hk
    have hbfs : bfs (sortE es) n = allS n (sortE es) := bfs_all (fun e he' => (ok.sort.2 e he').2.2.1) n
    have len_all : (allG n es).length ≤ 38416 := by
      unfold allG
      rw [List.length_map, ← hbfs]
      have h1 := bfs_len (rs := sortE es) (by rw [(sortE_perm es).length_eq]; exact h14) n
      have h2 : 14 ^ n ≤ 14 ^ 4 := Nat.pow_le_pow_right (by decide) n4
      omega
    refine ⟨[k], .int (n : Int), rfl, .ref p, rfl, allG n es, ⟨n, p, xs, es, rfl, n4, n4, hp5, hd5, ok, hlt, fun z => hpk (List.mem_singleton.mp z), fun b hb ys z => ?_, rfl⟩,
      fun i σ' H' => ∃ (v5 : Option V) (zs : List V), σ' = [some (.ref a), some (.int (n : Int)), some (.ref l), some (.ref p), some (.ref k), v5, none] ∧ H' k = some (.lst zs) ∧ DaL H' zs ((allG n es).take i) ∧ H' l = some (.lst xs) ∧ H' p = some (.lst xs) ∧ DaL H' xs (es.map dE) ∧ Tabs (tabQ PT) H',
      ⟨none, [], rfl, h5, DaL.nil, hl5, hp5, hd5, (hT3.ext e4).ext e5⟩, fun i σ' H' ⟨v5, zs, _, h1, _, _, _, _, h6⟩ => ⟨h6, fun b hb => by rw [List.mem_singleton.mp hb]; exact ⟨zs, h1⟩⟩,
      fun i d σ' H' hdi ⟨v5, zs, hσ, g1, g2, g3, g4, g5, g6⟩ H6 x eN t6 hx => ?_, fun σ' H' H6 ⟨v5, zs, hσ, g1, g2, g3, g4, g5, g6⟩ eN t6 => ?_⟩
    · rw [List.mem_singleton.mp hb, h5] at z
      cases z
    · subst hσ
      have nt : ∀ {us : List V}, ∀ ps, HO.lst us ≠ .tbl ps := fun ps z => by cases z
      obtain ⟨ps, _, rfl⟩ := List.mem_map.mp (show d ∈ (allS n (sortE es)).map dP from List.mem_of_getElem? hdi)
      obtain ⟨b, us, rfl, hb, _⟩ := hx.tup
      have k6 := eN _ _ g1 nt
      have hilt : i < (allG n es).length := (List.getElem?_eq_some_iff.mp hdi).1
      have hzl : zs.length = i := by rw [g2.length, List.length_take]; omega
      refine ⟨.ref b, rfl, b, us, rfl, hb, true, rfl, ?_⟩
      show (if (!true) = true then _ else _)
      rw [if_neg (by decide)]
      refine ⟨.ref k, rfl, k, zs, rfl, k6, .ref b, rfl, k, zs, .ref b, rfl, rfl, k6, by rw [hzl, sizeLine_eq]; omega, ?_⟩
      have tk : TK H6 (upd H6 k (.lst (zs ++ [.ref b]))) := fun b' us' z => by
        rw [upd_ne (fun y => by rw [y, k6] at z; cases z)]
        exact z
      have tkN : TK H' H6 := fun b' us' z => eN _ _ z fun ps y => by cases y
      refine ⟨⟨fun b' u hb' hu _ => by rw [upd_ne (fun y => hb' (by rw [y]; exact List.mem_singleton.mpr rfl))]; exact hu, fun b' hb' => by rw [List.mem_singleton.mp hb']; exact ⟨_, upd_same⟩⟩, _, zs ++ [.ref b], rfl, upd_same, ?_, ?_, ?_, (g5.keep tkN).keep tk, hTl _ _ _ _ t6 k6⟩
      · rw [List.take_add_one, hdi]
        exact ((g2.keep tkN).keep tk).app (DaL.cons (hx.keep tk) DaL.nil)
      · rw [upd_ne hlk]
        exact eN _ _ g3 nt
      · rw [upd_ne hpk]
        exact eN _ _ g4 nt
    · subst hσ
      have nt : ∀ {us : List V}, ∀ ps, HO.lst us ≠ .tbl ps := fun ps z => by cases z
      have tkN : TK H' H6 := fun b' us' z => eN _ _ z fun ps y => by cases y
      have k6 := eN _ _ g1 nt
      have l6 := eN _ _ g3 nt
      have p6 := eN _ _ g4 nt
      have d6 := g5.keep tkN
      have z6 : DaL H6 zs (allG n es) := by
        have := g2.keep tkN
        rw [List.take_length] at this
        exact this
      refine ⟨.int (n : Int), rfl, ?_⟩
      refine (eld_turn (K := K) (σ := [some (.ref a), some (.int (n : Int)), some (.ref l), some (.ref p), some (.ref k), v5, none]) (ev_var (i := 2) rfl) l6 d6) H6 (Ex.refl H6) _ fun pr ys H7 hpr e7 h7 d7 => ?_
      refine ⟨allG n es.reverse, ⟨n, pr, ys, es.reverse, rfl, n4, n4, h7, by rw [List.map_reverse]; exact d7, ⟨by rw [List.length_reverse]; exact ok.1, fun e he => ok.2 e (List.mem_reverse.mp he)⟩, fun e he => hlt e (List.mem_reverse.mp he), fun z => (by cases z), fun b hb => (by cases hb), rfl⟩, t6.ext e7, ?_, fun S ws H8 hS8 h8 d8 e8 t8 => ?_⟩
      · rw [sizeLine_eq]
        unfold allG
        rw [turn_sort ok]
        exact Nat.le_trans len_all (by decide)
      have tk8 : TK H7 H8 := fun b' us' z => e8 _ _ z fun ps y => by cases y
      have tk78 : TK H6 H8 := (TK.of e7).trans tk8
      have k8 := e8 _ _ (e7 _ _ k6) nt
      have l8 := e8 _ _ (e7 _ _ l6) nt
      have p8 := e8 _ _ (e7 _ _ p6) nt
      have zd8 := z6.keep tk78
      have dd8 := d6.keep tk78
      have w8 : DaL H8 ws (allG n es) := by
        unfold allG at d8 ⊢
        rw [turn_sort ok] at d8
        exact d8
      have sh1 : SeqAt.shaped (.list (allG n es)) = true := shape_list (k := 3) (fun d hd => by
        obtain ⟨ps, _, rfl⟩ := List.mem_map.mp (show d ∈ (allS n (sortE es)).map dP from hd)
        exact pk_dP) (by decide)
      have sh2 : SeqAt.shaped (.list (es.map dE)) = true := shape_list (k := 3) (fun d hd => by
        obtain ⟨e, _, rfl⟩ := List.mem_map.mp hd
        exact Pk.tup (k := 2) fun x hx => by
          simp only [row3, List.map_cons, List.map_nil, List.mem_cons, List.not_mem_nil, or_false] at hx
          rcases hx with rfl | rfl | rfl <;> exact Pk.int) (by decide)
      refine ⟨.ref k, rfl, .int (n : Int), rfl, .ref l, rfl, n, l, xs, es, rfl, n4, l8, dd8, ok, h14, fun pq H9 zq e9 h9 d9 => ?_⟩
      have q9 : DaL H9 zq (allG n es) := by
        rw [hbfs] at d9
        exact d9
      refine sameD (e9 _ _ k8) h9 (zd8.ex e9) q9 sh1 ⟨true, rfl, ?_⟩
      rw [if_pos rfl]
      refine ⟨.ref S, rfl, .ref k, rfl, sameD (e9 _ _ h8) (e9 _ _ k8) (w8.ex e9) (zd8.ex e9) sh1 ⟨true, rfl, ?_⟩⟩
      rw [if_pos rfl]
      exact ⟨.ref p, rfl, .ref l, rfl, sameD (e9 _ _ p8) (e9 _ _ l8) (dd8.ex e9) (dd8.ex e9) sh2 (q H9)⟩
end
end Fs

set_option Elab.async false
set_option linter.all false
set_option maxRecDepth 100000
set_option maxHeartbeats 8000000
/-! the end: a def whose code object has a table of its own (sets_of_seats: the lambda) -/
namespace Fs
open PySem PySem.Spec PyProof.Rows L2 LamX
/-- what is known of the def with the table, and of the law -/
def LawAtC (P : Program) (w : World) (K : PySem.W.Frag) (k : Nat) (mg : Str → Option Value) (fa : Addr) (sp : Addr → Sp) : Prop :=
  ∃ (fd fds : FuncData) (fs c PT : Addr) (os : Obj), mg "sets_of_seats" = some (.ref fs) ∧ K.lookup fs = some os ∧ os.data = .func fds ∧ fds.code = .ref c ∧ K.lookup PT = none ∧ PySem.W.codeHdIn K c PT = true ∧
    (∀ (s : Shared) (u : Value), BindsTo s fd ⟨[u], []⟩ [("_law_script", u)]) ∧
    ∀ base : Heap, K.In base → base.Ns mainGlobals mg → TabB base mg c PT → FnOk P w K mg base CX0 k fa fd ["_law_script"] (sp PT)
theorem walkC {l : PySem.W.OpenLaw} {k : Nat} {q : Program} {loose : List Str} {XP : (Str → Option Value) → Heap → Prop} {YP : World → Heap → Prop} {d : DefRec} {K : Params → PySem.W.Frag} {sp : World → Addr → Sp}
    (hn : l.most = some 63) (hdf : d.params.defaults = []) (hr : Room k callerA) (hq : ((recsOf q).any fun r => r.name == ("sets_of_seats" : Str)) = true)
    (hsp : ∀ (w : World) (H : Hp) (a PT : Addr) (ns : List Int), H PT = some (.tbl #[]) → SqL (K w.params) H a (ns.map V.int) → sp w PT [.ref a] H (fun v _ => v = .bl true) fun _ _ _ => False)
    (hY : ∀ (w : World) (h : Heap), YP w h → (K w.params).In h)
    (hF : ∀ (w : World) (mg : Str → Option Value) (fa : Addr) (h : Heap), (K w.params).In h → h.Ns mainGlobals mg → mg d.name = some (.ref fa) → LawAtC l.prog w (K w.params) k mg fa (sp w)) :
    PySem.W.WalkO q loose XP YP l.row.toRowW d [] (fun f vs => PySem.call f vs) := by
  refine Att.attach_callB hn hdf ?_
  intro w s₀ s₁ mg mb fa o _ _ _ a vs ns G Y _ _ _ hmg hobj hints hlen _ hg
  have KX := hY w _ Y
  obtain ⟨fd, fds, fs, c, PT, os, hms, hlk, hos, hcode, hPT, hhd, hb, hF'⟩ := hF w mg fa _ KX G.T.g hmg
  obtain ⟨d2, hd2, hn2⟩ := List.any_eq_true.mp hq
  obtain ⟨a2, o2, fd2, c2, P2, m2, g2, od2, cd2, _, tab⟩ := G.T.tab d2 hd2
  rw [eq_of_beq hn2, hms] at m2
  cases m2
  have g3 := KX fs os hlk
  rw [g2] at g3
  cases g3
  rw [hos] at od2
  cases od2
  rw [hcode] at cd2
  cases cd2
  have HD : PySem.W.CodeHd s₁.heap c PT := PySem.W.codeHd_of_K KX hhd
  obtain ⟨⟨o3, vs3, e1, _, e3, e4⟩, tb⟩ := tab
  have HD' := HD
  obtain ⟨o4, vs4, _, _, _, _, _, _, _, k1, _, k3, k4, _⟩ := HD'
  rw [e1] at k1
  cases k1
  rw [e3] at k3
  cases k3
  rw [e4] at k4
  cases k4
  have one : ∀ {C : Addr × Addr → Prop}, C (c, PT) → ∀ p ∈ [(c, PT)], C p := fun h p hp => by
    rw [List.mem_singleton.mp hp]
    exact h
  exact law_callTs (cs := [(c, PT)]) KX G.T.g G.T.b G.T.builtins G.T.nolimit hg (one tb) (one hPT) (one HD) G.T.bmain hobj hints (Nat.le_trans hlen (by decide)) hr (fun base KB NB TB => hF' base KB NB (TB (c, PT) (List.mem_singleton.mpr rfl))) hb
    (fun H hH hS => hsp w H a PT ns (hH (c, PT) (List.mem_singleton.mpr rfl)) hS) fun _ _ _ z => z
end Fs

set_option Elab.async false
set_option linter.all false
set_option maxRecDepth 100000
set_option maxHeartbeats 8000000
namespace Fs
open PySem PySem.Spec PyProof.Rows L2 Evl FsE FsC FsR FsK FsV FsG FsW FsD LamX FsA
theorem all_mk {P : Program} {w : World} {K : PySem.W.Frag} {h : Heap} {mg : Str → Option Value} {fa : Addr} (X : K.In h) (G : h.Ns mainGlobals mg) (hfa : mg "law" = some (.ref fa))
    {cS PT : Addr} {odS : Option Addr} {vsS : Array Value} {slS : Array (Option Value)} {clS : Value}
    {fsets : Addr} {odsets ansets : Option Addr} {slsets : Array (Option Value)} {ocsets kVsets dcsets pmsets ctsets : Value}
    {fbar : Addr} {odbar anbar : Option Addr} {slbar : Array (Option Value)} {ocbar kVbar dcbar pmbar ctbar : Value} {cdbar : Value}
    {fleft : Addr} {odleft anleft : Option Addr} {slleft : Array (Option Value)} {ocleft kVleft dcleft pmleft ctleft : Value} {cdleft : Value}
    {fgen : Addr} {odgen angen : Option Addr} {slgen : Array (Option Value)} {ocgen kVgen dcgen pmgen ctgen : Value} {cdgen : Value}
    {fcellat : Addr} {odcellat ancellat : Option Addr} {slcellat : Array (Option Value)} {occellat kVcellat dccellat pmcellat ctcellat : Value} {cdcellat : Value}
    {fmixed : Addr} {odmixed anmixed : Option Addr} {slmixed : Array (Option Value)} {ocmixed kVmixed dcmixed pmmixed ctmixed : Value} {cdmixed : Value}
    {frow : Addr} {odrow anrow : Option Addr} {slrow : Array (Option Value)} {ocrow kVrow dcrow pmrow ctrow : Value} {cdrow : Value}
    {fdrawn : Addr} {oddrawn andrawn : Option Addr} {sldrawn : Array (Option Value)} {ocdrawn kVdrawn dcdrawn pmdrawn ctdrawn : Value} {cddrawn : Value}
    {flonger : Addr} {odlonger anlonger : Option Addr} {sllonger : Array (Option Value)} {oclonger kVlonger dclonger pmlonger ctlonger : Value} {cdlonger : Value}
    {fseats : Addr} {odseats anseats : Option Addr} {slseats : Array (Option Value)} {ocseats kVseats dcseats pmseats ctseats : Value} {cdseats : Value}
    {flaw : Addr} {odlaw anlaw : Option Addr} {sllaw : Array (Option Value)} {oclaw kVlaw dclaw pmlaw ctlaw : Value} {cdlaw : Value}
    (asets : PySem.W.nsIn K mainGlobals "sets_of_seats" = some (some (.ref fsets)))
    (lsets : K.lookup fsets = some ⟨ocsets, odsets, .func (PySem.W.fnOf "sets_of_seats" "sets_of_seats" (defArgs (topS 4)) (defBody (topS 4)) (defScope (topS 4)) .none kVsets dcsets pmsets ansets (.ref cS) ctsets), slsets⟩)
    (csets : PySem.W.codeIn K (.ref cS) "sets_of_seats" = true)
    (ksets : PySem.W.keepIn K (.ref fsets) = true)
    (abar : PySem.W.nsIn K mainGlobals "least_bar" = some (some (.ref fbar)))
    (lbar : K.lookup fbar = some ⟨ocbar, odbar, .func (PySem.W.fnOf "least_bar" "least_bar" (defArgs (topS 2)) (defBody (topS 2)) (defScope (topS 2)) .none kVbar dcbar pmbar anbar cdbar ctbar), slbar⟩)
    (cbar : PySem.W.codeIn K cdbar "least_bar" = true)
    (kbar : PySem.W.keepIn K (.ref fbar) = true)
    (aleft : PySem.W.nsIn K mainGlobals "left_for_others" = some (some (.ref fleft)))
    (lleft : K.lookup fleft = some ⟨ocleft, odleft, .func (PySem.W.fnOf "left_for_others" "left_for_others" (defArgs (topS 3)) (defBody (topS 3)) (defScope (topS 3)) .none kVleft dcleft pmleft anleft cdleft ctleft), slleft⟩)
    (cleft : PySem.W.codeIn K cdleft "left_for_others" = true)
    (kleft : PySem.W.keepIn K (.ref fleft) = true)
    (agen : PySem.W.nsIn K mainGlobals "seatings" = some (some (.ref fgen)))
    (lgen : K.lookup fgen = some ⟨ocgen, odgen, .func (PySem.W.fnOf "seatings" "seatings" (defArgs (topS 1)) (defBody (topS 1)) (defScope (topS 1)) .none kVgen dcgen pmgen angen cdgen ctgen), slgen⟩)
    (cgen : PySem.W.codeIn K cdgen "seatings" = true)
    (kgen : PySem.W.keepIn K (.ref fgen) = true)
    (acellat : PySem.W.nsIn K mainGlobals "_law_cell_at" = some (some (.ref fcellat)))
    (lcellat : K.lookup fcellat = some ⟨occellat, odcellat, .func (PySem.W.fnOf "_law_cell_at" "_law_cell_at" (defArgs (topS 6)) (defBody (topS 6)) (defScope (topS 6)) .none kVcellat dccellat pmcellat ancellat cdcellat ctcellat), slcellat⟩)
    (ccellat : PySem.W.codeIn K cdcellat "_law_cell_at" = true)
    (kcellat : PySem.W.keepIn K (.ref fcellat) = true)
    (amixed : PySem.W.nsIn K mainGlobals "_law_mixed" = some (some (.ref fmixed)))
    (lmixed : K.lookup fmixed = some ⟨ocmixed, odmixed, .func (PySem.W.fnOf "_law_mixed" "_law_mixed" (defArgs (topS 7)) (defBody (topS 7)) (defScope (topS 7)) .none kVmixed dcmixed pmmixed anmixed cdmixed ctmixed), slmixed⟩)
    (cmixed : PySem.W.codeIn K cdmixed "_law_mixed" = true)
    (kmixed : PySem.W.keepIn K (.ref fmixed) = true)
    (arow : PySem.W.nsIn K mainGlobals "_law_row" = some (some (.ref frow)))
    (lrow : K.lookup frow = some ⟨ocrow, odrow, .func (PySem.W.fnOf "_law_row" "_law_row" (defArgs (topS 8)) (defBody (topS 8)) (defScope (topS 8)) .none kVrow dcrow pmrow anrow cdrow ctrow), slrow⟩)
    (crow : PySem.W.codeIn K cdrow "_law_row" = true)
    (krow : PySem.W.keepIn K (.ref frow) = true)
    (adrawn : PySem.W.nsIn K mainGlobals "_law_drawn" = some (some (.ref fdrawn)))
    (ldrawn : K.lookup fdrawn = some ⟨ocdrawn, oddrawn, .func (PySem.W.fnOf "_law_drawn" "_law_drawn" (defArgs (topS 9)) (defBody (topS 9)) (defScope (topS 9)) .none kVdrawn dcdrawn pmdrawn andrawn cddrawn ctdrawn), sldrawn⟩)
    (cdrawn : PySem.W.codeIn K cddrawn "_law_drawn" = true)
    (kdrawn : PySem.W.keepIn K (.ref fdrawn) = true)
    (alonger : PySem.W.nsIn K mainGlobals "_law_longer" = some (some (.ref flonger)))
    (llonger : K.lookup flonger = some ⟨oclonger, odlonger, .func (PySem.W.fnOf "_law_longer" "_law_longer" (defArgs (topS 10)) (defBody (topS 10)) (defScope (topS 10)) .none kVlonger dclonger pmlonger anlonger cdlonger ctlonger), sllonger⟩)
    (clonger : PySem.W.codeIn K cdlonger "_law_longer" = true)
    (klonger : PySem.W.keepIn K (.ref flonger) = true)
    (aseats : PySem.W.nsIn K mainGlobals "_law_seatings" = some (some (.ref fseats)))
    (lseats : K.lookup fseats = some ⟨ocseats, odseats, .func (PySem.W.fnOf "_law_seatings" "_law_seatings" (defArgs (topS 11)) (defBody (topS 11)) (defScope (topS 11)) .none kVseats dcseats pmseats anseats cdseats ctseats), slseats⟩)
    (cseats : PySem.W.codeIn K cdseats "_law_seatings" = true)
    (kseats : PySem.W.keepIn K (.ref fseats) = true)
    (alaw : PySem.W.nsIn K mainGlobals "law" = some (some (.ref flaw)))
    (llaw : K.lookup flaw = some ⟨oclaw, odlaw, .func (PySem.W.fnOf "law" "law" (defArgs (topS 12)) (defBody (topS 12)) (defScope (topS 12)) .none kVlaw dclaw pmlaw anlaw cdlaw ctlaw), sllaw⟩)
    (claw : PySem.W.codeIn K cdlaw "law" = true)
    (klaw : PySem.W.keepIn K (.ref flaw) = true)
    (oP : K.lookup cS = some ⟨clS, odS, .fields vsS, slS⟩)
    (vP : vsS[11]? = some (.ref PT))
    (tP : K.lookup PT = none)
    (hP : PySem.W.codeHdIn K cS PT = true)
    (z_len : PySem.W.nsIn K mainGlobals "len" = some (none))
    (z_int : PySem.W.nsIn K mainGlobals "int" = some (none))
    (z_abs : PySem.W.nsIn K mainGlobals "abs" = some (none))
    (z_range : PySem.W.nsIn K mainGlobals "range" = some (none))
    (z_sorted : PySem.W.nsIn K mainGlobals "sorted" = some (none))
    (z_isinstance : PySem.W.nsIn K mainGlobals "isinstance" = some (none))
    (z_tuple : PySem.W.nsIn K mainGlobals "tuple" = some (none))
    (z_list : PySem.W.nsIn K mainGlobals "list" = some (none)) :
    LawAtC P w K 20 mg fa (spLaw K) := by
  have e := hfa.symm.trans (PySem.W.mg_of X G alaw)
  cases e
  have Fsets := fun_mk (st := (topS 4)) lsets csets ksets
  have Bsets := Fsets.binds (ps := ["seats"]) fun _ _ _ _ _ _ us hl => match us, hl with | [_], _ => rfl
  have Fbar := fun_mk (st := (topS 2)) lbar cbar kbar
  have Bbar := Fbar.binds (ps := ["seats", "entries"]) fun _ _ _ _ _ _ us hl => match us, hl with | [_, _], _ => rfl
  have Fleft := fun_mk (st := (topS 3)) lleft cleft kleft
  have Bleft := Fleft.binds (ps := ["taken", "entries"]) fun _ _ _ _ _ _ us hl => match us, hl with | [_, _], _ => rfl
  have Fgen := fun_mk (st := (topS 1)) lgen cgen kgen
  have Bgen := Fgen.binds (ps := ["seats", "entries"]) fun _ _ _ _ _ _ us hl => match us, hl with | [_, _], _ => rfl
  have Fcellat := fun_mk (st := (topS 6)) lcellat ccellat kcellat
  have Bcellat := Fcellat.binds (ps := ["_law_script", "_law_k"]) fun _ _ _ _ _ _ us hl => match us, hl with | [_, _], _ => rfl
  have Fmixed := fun_mk (st := (topS 7)) lmixed cmixed kmixed
  have Bmixed := Fmixed.binds (ps := ["_law_cell", "_law_k"]) fun _ _ _ _ _ _ us hl => match us, hl with | [_, _], _ => rfl
  have Frow := fun_mk (st := (topS 8)) lrow crow krow
  have Brow := Frow.binds (ps := ["_law_cell", "_law_many"]) fun _ _ _ _ _ _ us hl => match us, hl with | [_, _], _ => rfl
  have Fdrawn := fun_mk (st := (topS 9)) ldrawn cdrawn kdrawn
  have Bdrawn := Fdrawn.binds (ps := ["_law_row_here"]) fun _ _ _ _ _ _ us hl => match us, hl with | [_], _ => rfl
  have Flonger := fun_mk (st := (topS 10)) llonger clonger klonger
  have Blonger := Flonger.binds (ps := ["_law_found", "_law_pairs"]) fun _ _ _ _ _ _ us hl => match us, hl with | [_, _], _ => rfl
  have Fseats := fun_mk (st := (topS 11)) lseats cseats kseats
  have Bseats := Fseats.binds (ps := ["_law_seats", "_law_entries"]) fun _ _ _ _ _ _ us hl => match us, hl with | [_, _], _ => rfl
  have Flaw := fun_mk (st := (topS 12)) llaw claw klaw
  have Blaw := Flaw.binds (ps := ["_law_script"]) fun _ _ _ _ _ _ us hl => match us, hl with | [_], _ => rfl
  have L : LawT K mg := { len := PySem.W.mg_none_of X G z_len, int := PySem.W.mg_none_of X G z_int, abs := PySem.W.mg_none_of X G z_abs, range := PySem.W.mg_none_of X G z_range }
  have T : SeaT K mg := { len := PySem.W.mg_none_of X G z_len, range := PySem.W.mg_none_of X G z_range, sorted := PySem.W.mg_none_of X G z_sorted }
  have TS : LawS mg := { isinst := PySem.W.mg_none_of X G z_isinstance, tuple := PySem.W.mg_none_of X G z_tuple, list := PySem.W.mg_none_of X G z_list }
  refine ⟨PySem.W.fnOf "law" "law" (defArgs (topS 12)) (defBody (topS 12)) (defScope (topS 12)) .none kVlaw dclaw pmlaw anlaw cdlaw ctlaw, _, _, cS, PT, _, PySem.W.mg_of X G asets, lsets, rfl, rfl, tP, hP, fun s v => .of_eq rfl, fun base _ _ TB => ?_⟩
  have Gsets : CalX P w K mg base CX0 4 "sets_of_seats" (spSets PT) := ⟨_, _, _, ok_sets Fsets rfl TB T, PySem.W.mg_of X G asets, ksets, Bsets⟩
  have Gbar : CalX P w K mg base CX0 5 "least_bar" (spBar PT) := ⟨_, _, _, ok_bar Fbar Gsets T, PySem.W.mg_of X G abar, kbar, Bbar⟩
  have Gleft : CalX P w K mg base CX0 1 "left_for_others" spLeft := ⟨_, _, _, ok_left Fleft, PySem.W.mg_of X G aleft, kleft, Bleft⟩
  have GG := gen_allA (P := P) (w := w) (base := base) Fgen (PySem.W.mg_of X G agen) kgen Bgen Gbar Gleft T 4
  have Gcellat : CalX P w K mg base CX0 1 "_law_cell_at" (spCellAt K) := ⟨_, _, _, ok_cell_at Fcellat L, PySem.W.mg_of X G acellat, kcellat, Bcellat⟩
  have Gmixed : CalX P w K mg base CX0 1 "_law_mixed" spMixed := ⟨_, _, _, ok_mixed Fmixed L, PySem.W.mg_of X G amixed, kmixed, Bmixed⟩
  have Grow : CalX P w K mg base CX0 2 "_law_row" spRow := ⟨_, _, _, ok_row Frow L Gmixed, PySem.W.mg_of X G arow, krow, Brow⟩
  have Gdrawn : CalX P w K mg base CX0 1 "_law_drawn" (spDrawn K) := ⟨_, _, _, ok_drawn Fdrawn L, PySem.W.mg_of X G adrawn, kdrawn, Bdrawn⟩
  have Glonger : CalX P w K mg base CX0 1 "_law_longer" spLonger := ⟨_, _, _, ok_longer Flonger, PySem.W.mg_of X G alonger, klonger, Blonger⟩
  have Gseats : CalX P w K mg base CX0 3 "_law_seatings" spSeats := ⟨_, _, _, ok_seats Fseats Glonger T, PySem.W.mg_of X G aseats, kseats, Bseats⟩
  exact ok_law Flaw L TS Gcellat Grow Gdrawn (PySem.W.mg_of X G agen) kgen Bgen GG Gseats
theorem walk {l : PySem.W.OpenLaw} {q : Program} {loose : List Str} {XP : (Str → Option Value) → Heap → Prop} {YP : World → Heap → Prop} {d : DefRec} {K : Params → PySem.W.Frag} (hn : l.most = some 63) (hdf : d.params.defaults = [])
    (hq : ((recsOf q).any fun r => r.name == ("sets_of_seats" : Str)) = true) (hY : ∀ (w : World) (h : Heap), YP w h → (K w.params).In h)
    (hF : ∀ (w : World) (mg : Str → Option Value) (fa : Addr) (h : Heap), (K w.params).In h → h.Ns mainGlobals mg → mg d.name = some (.ref fa) → LawAtC l.prog w (K w.params) 20 mg fa (spLaw (K w.params))) :
    PySem.W.WalkO q loose XP YP l.row.toRowW d [] (fun f vs => PySem.call f vs) :=
  walkC (k := 20) (sp := fun w => spLaw (K w.params)) hn hdf ⟨rfl, by decide, by decide⟩ hq (fun _ _ a PT ns hP hS => ⟨a, ns, rfl, hS, hP, fun _ => rfl⟩) hY hF
end Fs

open PySem PySem.W PyProof.Rows
set_option Elab.async false
set_option maxRecDepth 100000 in
set_option maxHeartbeats 0 in
theorem PySem.Challenge.cw_fullseats_k26_all_seatings_holds : PySem.Challenge.rw_fullseats_k26_all_seatings.Holds := by
  w_on; o_law; k_head; (case hw => w_witness2)
  k_fill
  refine Fs.walk (l := PySem.Challenge.rw_fullseats_k26_all_seatings) rfl rfl (by decide +kernel) (fun w h Y => Y.1) ?F
  case F =>
    intro w mg fa h KX G hmg
    refine' Fs.all_mk KX G hmg ?asets ?lsets ?csets ?ksets ?abar ?lbar ?cbar ?kbar ?aleft ?lleft ?cleft ?kleft ?agen ?lgen ?cgen ?kgen ?acellat ?lcellat ?ccellat ?kcellat ?amixed ?lmixed ?cmixed ?kmixed ?arow ?lrow ?crow ?krow ?adrawn ?ldrawn ?cdrawn ?kdrawn ?alonger ?llonger ?clonger ?klonger ?aseats ?lseats ?cseats ?kseats ?alaw ?llaw ?claw ?klaw ?oP ?vP ?tP ?hP ?z_len ?z_int ?z_abs ?z_range ?z_sorted ?z_isinstance ?z_tuple ?z_list
    (case asets => k_is)
    (case lsets => k_is)
    (case csets => k_is)
    (case ksets => k_is)
    (case abar => k_is)
    (case lbar => k_is)
    (case cbar => k_is)
    (case kbar => k_is)
    (case aleft => k_is)
    (case lleft => k_is)
    (case cleft => k_is)
    (case kleft => k_is)
    (case agen => k_is)
    (case lgen => k_is)
    (case cgen => k_is)
    (case kgen => k_is)
    (case acellat => k_is)
    (case lcellat => k_is)
    (case ccellat => k_is)
    (case kcellat => k_is)
    (case amixed => k_is)
    (case lmixed => k_is)
    (case cmixed => k_is)
    (case kmixed => k_is)
    (case arow => k_is)
    (case lrow => k_is)
    (case crow => k_is)
    (case krow => k_is)
    (case adrawn => k_is)
    (case ldrawn => k_is)
    (case cdrawn => k_is)
    (case kdrawn => k_is)
    (case alonger => k_is)
    (case llonger => k_is)
    (case clonger => k_is)
    (case klonger => k_is)
    (case aseats => k_is)
    (case lseats => k_is)
    (case cseats => k_is)
    (case kseats => k_is)
    (case alaw => k_is)
    (case llaw => k_is)
    (case claw => k_is)
    (case klaw => k_is)
    (case oP => k_is)
    (case vP => rfl)
    (case tP => rfl)
    (case hP => rfl)
    (case z_len => k_is)
    (case z_int => k_is)
    (case z_abs => k_is)
    (case z_range => k_is)
    (case z_sorted => k_is)
    (case z_isinstance => k_is)
    (case z_tuple => k_is)
    (case z_list => k_is)

