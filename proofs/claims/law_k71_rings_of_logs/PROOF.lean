import PyProof.Rows.All
import Wide.All
import OpenK.AllK
import Wide.FinOn
import KE.DatumOrd
import HandS.Base
import HandS.Call
import HandS.List
import HandS.SortKw
import HandS.ForMost
import HandS.ForExc
import HandS.Evl
import HandS.Walk
import HandS.IsInst
import HandS.Codes
import HandS.Exc
import HandS.ExcOwn
import HandS.ClsMeth
import HandS.OwnEq
import HandS.Dict
import HandS.DictComp
import HandS.Comp
import PyProof.EqAt
import PyProof.NeKinds
import HandS.DeepEq
import HandS.TupAny
import HandS.SetKeys
import HandS.DictTup
import PyProof.DictMoreH
import PyProof.ExcBaseAll.ValueError
import HandS.Set
import HandS.SetFor
import HandS.Strs
import PyProof.ListNew
import HandS.Zip
import HandS.SetBool
import KE.DataMinMax
import KE.SortCalls
import HandS.TupSets
import KE.SortKeyHeap
import HandS.Lambda
import HandS.More
import KE.DataCmp
import HandS.WordsExc
import HandS.Flow
import HandS.Style
import HandS.TryOnly
import KE.KExcLine
import KE.RegKSuper
import PySem.Challenge.RW_fullseats_k71_rings_of_logs
set_option Elab.async false
set_option linter.all false
set_option maxRecDepth 100000
set_option maxHeartbeats 2000000
/-! max(xs, default=d) of a list of ints -/
namespace FsR
open PySem PySem.Spec PyProof.Rows L2
def maxFrom (y : Int) (ys : List Int) : Int := ys.foldl max y
def maxDef (d : Int) : List Int → Int
  | [] => d
  | y :: ys => maxFrom y ys
theorem maxOf_eq : ∀ (ys : List Int) (y : Int), PySem.W.maxOf y ys = maxFrom y ys
  | [], y => rfl
  | z :: zs, y => by
    have e : (if PySem.W.DatumOrd.lt y z = true then z else y) = max y z := by
      show (if decide (y < z) = true then z else y) = max y z
      by_cases h : y < z
      · rw [if_pos (decide_eq_true h)]; omega
      · rw [if_neg (by simpa using h)]; omega
    have ih := maxOf_eq zs (max y z)
    unfold PySem.W.maxOf maxFrom at *
    rw [List.foldl_cons, List.foldl_cons, e]
    exact ih
theorem readsAll_ints {h : Heap} : ∀ {vs : List Value} {ns : List Int}, IntsAre vs ns → ∃ as, ReadsAll h vs (ns.map PySem.W.Datum.toD) as
  | _, _, .nil => ⟨[], .nil⟩
  | _, _, .cons n t r => by
    obtain ⟨as, z⟩ := readsAll_ints (h := h) r
    exact ⟨[] ++ as, .cons (.int n t) z⟩
/-- max(xs, default=d) -/
def rMaxD (K : PySem.W.Frag) : List V → List V → Hp → VK → Prop := fun xs zs H Q => ∃ (a : Addr) (ns : List Int) (d : Int), xs = [V.ref a] ∧ zs = [V.int d] ∧ SqL K H a (ns.map V.int) ∧ Q (.int (maxDef d ns)) H
theorem ck_maxD {X : Cx} (hc : X.calm = true) (hu : X.A.units + 1 + 1 < cLine) : CallRK X (.builtin "max") ["default"] (rMaxD X.K) := by
  intro pins s σ H xs zs us ws Q I r rz h
  obtain ⟨a, ns, d, rfl, rfl, hs, q⟩ := h
  obtain ⟨its, rv, hl, _⟩ := I.list hs
  rw [Vals.ref1 r]
  cases rz with
  | cons rd rn =>
    cases rn
    obtain ⟨t, rfl⟩ := rd
    have hI := rv.ints
    show wpAny (model X.prog X.w) X.A (call (.builtin "max") [.ref a] [(Str.ofString "default", .int d t)]) _ _ _
    refine PySem.W.max_list_datum_default (α := Int) (xs := ns) (I.ok.hd hc) hl.isList (readsAll_ints hI) (by show X.A.units + 1 + 0 < cLine; omega) (fun e h' tk hk => ?_) (fun y ys i v h' tk e hi hv hk => ?_)
    · subst e
      exact ⟨.int d, H, I.kept hk, ⟨t, rfl⟩, q⟩
    · subst e
      obtain ⟨as, z⟩ := hv
      have z' : ∃ t', v = Value.int (PySem.W.maxOf y ys) t' := by
        have z2 : Reads h' v (.int (PySem.W.maxOf y ys)) as := z
        cases z2 with
        | int _ t' => exact ⟨t', rfl⟩
      obtain ⟨t', rfl⟩ := z'
      refine ⟨.int (PySem.W.maxOf y ys), H, I.kept hk, ⟨t', rfl⟩, ?_⟩
      rw [maxOf_eq]
      exact q
end FsR

set_option Elab.async false
set_option linter.all false
set_option maxRecDepth 100000
set_option maxHeartbeats 2000000
/-! further Ev lemmas -/
namespace FsE
open PySem L2 Evl
section
variable {K : PySem.W.Frag} {σ : L2.St} {H : Hp} {ta tb tc te : TE} {x y z : V}
theorem ev_chain {r r' : R2} {a b : Bool} (ha : Ev ta σ H x) (hb : Ev tb σ H y) (h1 : RV r x y H (.bl a)) (hc : a = true → Ev tc σ H z) (h2 : a = true → RV r' y z H (.bl b)) : Ev (tChain r r' ta tb tc) σ H (.bl (a && b)) := fun H1 e Q q =>
  ha H1 e _ fun H2 e2 => hb H2 (e.trans e2) _ fun H3 e3 => h1 H3 ((e.trans e2).trans e3) _ fun H4 e4 => ⟨a, rfl, by
    cases a with
    | true =>
      show tc σ H4 _
      exact hc rfl H4 (((e.trans e2).trans e3).trans e4) _ fun H5 e5 => h2 rfl H5 ((((e.trans e2).trans e3).trans e4).trans e5) Q fun H6 e6 => q H6 ((((e2.trans e3).trans e4).trans e5).trans e6)
    | false =>
      show Q (.bl false) H4
      exact q H4 ((e2.trans e3).trans e4)⟩
theorem rc_isi {t T : String} {b : Bool} (ht : ∀ H1, Ex H H1 → TyX K H1 x (.type t)) (hk : kitB t T = some b) : RC (rIsi K) [x, .ty T] H (.bl b) := fun H1 e Q q =>
  ⟨x, .ty T, .type t, .type T, b, rfl, .ty T, ht H1 e, kit_ty hk, q H1 (Ex.refl H1)⟩
theorem rc_isStr {z : Str} {T : String} {b : Bool} (hk : kitB "str" T = some b) : RC (rIsi K) [.str z, .ty T] H (.bl b) := rc_isi (fun _ _ => .base (.str z)) hk
theorem rc_isInt {i : Int} {T : String} {b : Bool} (hk : kitB "int" T = some b) : RC (rIsi K) [.int i, .ty T] H (.bl b) := rc_isi (fun _ _ => .base (.int i)) hk
/-- len of a text -/
theorem rc_lenS {z : Str} (hz : z.length ≤ sizeLine) : RC (fun xs H Q => ∃ a, xs = [.str a] ∧ a.length ≤ sizeLine ∧ Q (.int (a.length : Nat)) H) [.str z] H (.int (z.length : Nat)) := fun H1 _ _ q => ⟨z, rfl, hz, q H1 (Ex.refl H1)⟩
theorem rv_inSign {c : Nat} {z : Str} : RV (fun x y H Q => ∃ (c : Nat) (z : Str), x = .str ⟨#[c]⟩ ∧ y = .str z ∧ Q (.bl (decide (c ∈ z.cps.toList))) H) (.str ⟨#[c]⟩) (.str z) H (.bl (decide (c ∈ z.cps.toList))) := fun H1 _ _ q => ⟨c, z, rfl, rfl, q H1 (Ex.refl H1)⟩
theorem rv_niSign {c : Nat} {z : Str} : RV (fun x y H Q => ∃ (c : Nat) (z : Str), x = .str ⟨#[c]⟩ ∧ y = .str z ∧ Q (.bl (!decide (c ∈ z.cps.toList))) H) (.str ⟨#[c]⟩) (.str z) H (.bl (!decide (c ∈ z.cps.toList))) := fun H1 _ _ q => ⟨c, z, rfl, rfl, q H1 (Ex.refl H1)⟩
/-- a comprehension over a text -/
theorem el_lcS {z : Str} {tl : TE} {j : Nat} {vs : List Nat} {t : TT} (f : Nat → Bool) (v : Nat → V) (h : Ev tl σ H (.str z)) (hz : z.cps.size ≤ 40000) (hw : ∀ x, wipe ((wipe σ vs).set j (some x)) vs = wipe σ vs)
    (ht : ∀ (i : Nat) (c : Nat) H1, Ex H H1 → z.cps[i]? = some c → EvT t ((wipe σ vs).set j (some (.str ⟨#[c]⟩))) H1 (f i)) (he : ∀ (i : Nat) (c : Nat) H1, Ex H H1 → z.cps[i]? = some c → f i = true → Ev te ((wipe σ vs).set j (some (.str ⟨#[c]⟩))) H1 (v i)) :
    EvL (tLc (iStr tl) (gName j) t te vs) σ H (given z.cps.size f v) := fun H0 e Q q => h H0 e _ fun H1 e1 => ⟨z, rfl, fun Dl hD =>
  lc_it walk_str (Cw H1 f v Dl) ⟨hD, Ex.new hD, upd_same⟩ (fun _ _ _ _ => trivial) (fun i x H' H2 hi p y => by
    obtain ⟨rfl, c, hc, rfl⟩ := y
    exact ⟨hw _, cw_turn p (by omega) (ht i c H1 (e.trans e1) hc) (fun hf => he i c H1 (e.trans e1) hc hf)⟩)
    (fun H' p => q Dl H' (fresh_back e1 p.1) (e1.trans p.2.1) p.2.2)⟩
/-- all of a new list of bools -/
theorem ev_all {bs : List Bool} (h : EvL te σ H (bs.map V.bl)) : Ev (tCB (rAll K) (tCons te tNil)) σ H (.bl (bs.all id)) := fun H1 e Q q =>
  h H1 e _ fun p H2 _ e2 hp => ⟨p, bs, rfl, sq_of hp, q H2 e2⟩
/-- given, no test -/
theorem given_all {n : Nat} {v : Nat → V} : given n (fun _ => true) v = (List.range n).map v := by
  unfold given
  rw [List.filter_eq_self.mpr (fun _ _ => rfl)]
theorem et_nil : EvT tYes σ H true := fun H1 _ _ q => q H1 (Ex.refl H1)
theorem range_map {α : Type} (xs : List α) (d : α) (v : α → V) : (List.range xs.length).map (fun i => v (xs.getD i d)) = xs.map v := by
  refine List.ext_getElem? fun i => ?_
  rw [List.getElem?_map, List.getElem?_map]
  by_cases hi : i < xs.length
  · rw [List.getElem?_range hi, List.getElem?_eq_getElem hi]
    show some (v (xs.getD i d)) = some (v xs[i])
    rw [List.getD_eq_getElem?_getD, List.getElem?_eq_getElem hi]
    rfl
  · rw [List.getElem?_eq_none (by rw [List.length_range]; omega), List.getElem?_eq_none (by omega)]
    rfl
/-- [e for c in text] -/
theorem el_lcSm {z : Str} {tl : TE} {j : Nat} {vs : List Nat} (v : Nat → V) (h : Ev tl σ H (.str z)) (hz : z.length ≤ 40000) (hw : ∀ x, wipe ((wipe σ vs).set j (some x)) vs = wipe σ vs)
    (he : ∀ (c : Nat) H1, Ex H H1 → c ∈ z.cps.toList → Ev te ((wipe σ vs).set j (some (.str ⟨#[c]⟩))) H1 (v c)) : EvL (tLc (iStr tl) (gName j) tYes te vs) σ H (z.cps.toList.map v) := by
  have g := el_lcS (te := te) (j := j) (vs := vs) (t := tYes) (fun _ => true) (fun i => v (z.cps.toList.getD i 0)) h hz hw (fun _ _ _ _ _ => et_nil) (fun i c H3 e hc _ => by
    have e1 : z.cps.toList.getD i 0 = c := by
      rw [List.getD_eq_getElem?_getD, Array.getElem?_toList, hc]
      rfl
    rw [e1]
    exact he c H3 e (by rw [List.mem_iff_getElem?]; exact ⟨i, by rw [Array.getElem?_toList, hc]⟩))
  rw [given_all] at g
  have e := range_map z.cps.toList 0 v
  rw [Array.length_toList] at e
  rw [e] at g
  exact g
/-- [e for x in list] -/
theorem el_lcLm {a : Addr} {xs : List V} {tl : TE} {j : Nat} {vs : List Nat} (v : V → V) (h : Ev tl σ H (.ref a)) (hx : SqL K H a xs) (hz : xs.length ≤ 40000) (hw : ∀ x, wipe ((wipe σ vs).set j (some x)) vs = wipe σ vs)
    (he : ∀ (x : V) H1, Ex H H1 → x ∈ xs → Ev te ((wipe σ vs).set j (some x)) H1 (v x)) : EvL (tLc (iList K tl) (gName j) tYes te vs) σ H (xs.map v) := by
  have g := el_lcL (K := K) (te := te) (j := j) (vs := vs) (t := tYes) (fun _ => true) (fun i => v (xs.getD i .non)) h hx hz hw (fun _ _ _ _ _ => et_nil) (fun i x H3 e hc _ => by
    have e1 : xs.getD i .non = x := by
      rw [List.getD_eq_getElem?_getD, hc]
      rfl
    rw [e1]
    exact he x H3 e (List.mem_iff_getElem?.mpr ⟨i, hc⟩))
  rw [given_all, range_map xs .non v] at g
  exact g
/-- [e for x in (a new list)] -/
theorem el_lcNLm {xs : List V} {tl : TE} {j : Nat} {vs : List Nat} (v : V → V) (h : EvL tl σ H xs) (hz : xs.length ≤ 40000) (hw : ∀ x, wipe ((wipe σ vs).set j (some x)) vs = wipe σ vs)
    (he : ∀ (x : V) H1, Ex H H1 → x ∈ xs → Ev te ((wipe σ vs).set j (some x)) H1 (v x)) : EvL (tLc (iList K tl) (gName j) tYes te vs) σ H (xs.map v) := by
  have g := el_lcNL (K := K) (te := te) (j := j) (vs := vs) (t := tYes) (fun _ => true) (fun i => v (xs.getD i .non)) h hz hw (fun _ _ _ _ _ => et_nil) (fun i x H3 e hc _ => by
    have e1 : xs.getD i .non = x := by
      rw [List.getD_eq_getElem?_getD, hc]
      rfl
    rw [e1]
    exact he x H3 e (List.mem_iff_getElem?.mpr ⟨i, hc⟩))
  rw [given_all, range_map xs .non v] at g
  exact g
/-- [e for k in range(n)] -/
theorem el_lcRm {tn : TA} {j : Nat} {vs : List Nat} {n : Int} (v : Nat → V) (h : EvA tn σ H [.int n]) (hn : 0 ≤ n ∧ n ≤ 40000) (hw : ∀ x, wipe ((wipe σ vs).set j (some x)) vs = wipe σ vs)
    (he : ∀ (i : Nat) H1, Ex H H1 → (i : Int) < n → Ev te ((wipe σ vs).set j (some (.int (i : Int)))) H1 (v i)) : EvL (tLc (iRng1 tn) (gName j) tYes te vs) σ H ((List.range n.toNat).map v) := by
  have g := el_lcR1 (te := te) (j := j) (vs := vs) (t := tYes) (fun _ => true) v h hn hw (fun _ _ _ _ => et_nil) (fun i H1 e hi _ => he i H1 e hi)
  rw [given_all] at g
  exact g
/-- a comprehension over a tuple -/
theorem el_lcT {a : Addr} {xs : List V} {tl : TE} {j : Nat} {vs : List Nat} {t : TT} (f : Nat → Bool) (v : Nat → V) (h : Ev tl σ H (.ref a)) (hx : SqT K H a xs) (hz : xs.length ≤ 40000) (hw : ∀ x, wipe ((wipe σ vs).set j (some x)) vs = wipe σ vs)
    (ht : ∀ (i : Nat) (x : V) H1, Ex H H1 → xs[i]? = some x → EvT t ((wipe σ vs).set j (some x)) H1 (f i)) (he : ∀ (i : Nat) (x : V) H1, Ex H H1 → xs[i]? = some x → f i = true → Ev te ((wipe σ vs).set j (some x)) H1 (v i)) :
    EvL (tLc (iTup K tl) (gName j) t te vs) σ H (given xs.length f v) := fun H0 e Q q => h H0 e _ fun H1 e1 => ⟨a, rfl, ⟨xs, ex_t (e.trans e1) hx⟩, fun Dl hD =>
  lc_tup (xs := xs) (Cw H1 f v Dl) ⟨hD, Ex.new hD, upd_same⟩ (fun i H' _ p => ex_t ((e.trans e1).trans p.2.1) hx) (fun i x H' hi p => ⟨hw x, cw_turn p (by have := (List.getElem?_eq_some_iff.mp hi).1; omega) (ht i x H1 (e.trans e1) hi) (fun hf => he i x H1 (e.trans e1) hi hf)⟩)
    (fun H' p => q Dl H' (fresh_back e1 p.1) (e1.trans p.2.1) p.2.2)⟩
theorem ev_fld {a C dx : Addr} {fs : List (Str × V)} {f : Str} {v : V} (h : Ev ta σ H (.ref a)) (hi : H a = some (.ins C dx fs)) (cl : Cls K C) (n : NoAttr K C f) (l : fs.lookup f = some v) : Ev (tFld K ta f) σ H v := fun H1 e Q q =>
  h H1 e _ fun H2 e2 => ⟨a, C, dx, fs, v, rfl, (e.trans e2) _ _ hi, cl, n, l, q H2 e2⟩
theorem ev_sum {ns : List Int} (h : EvL te σ H (ns.map V.int)) : Ev (tCB (rSum K) (tCons te tNil)) σ H (.int ns.sum) := fun H1 e Q q =>
  h H1 e _ fun p H2 _ e2 hp => ⟨p, ns, rfl, sq_of hp, q H2 e2⟩
theorem ev_maxD {ns : List Int} {d : Int} (h : EvL te σ H (ns.map V.int)) : Ev (tCKw (FsR.rMaxD K) (tCons te tNil) (tCons (tC (.int d)) tNil)) σ H (.int (FsR.maxDef d ns)) := fun H1 e Q q =>
  h H1 e _ fun p H2 _ e2 hp => ⟨p, ns, d, rfl, rfl, sq_of hp, q H2 e2⟩
theorem ev_lenT {a : Addr} {xs : List V} (h : Ev ta σ H (.ref a)) (hx : SqT K H a xs) : Ev (tCB (fun xs H Q => ∃ p ys, xs = [V.ref p] ∧ (SqL K H p ys ∨ SqT K H p ys) ∧ Q (.int ys.length) H) (tCons ta tNil)) σ H (.int (xs.length : Int)) := fun H1 e Q q =>
  h H1 e _ fun H2 e2 => ⟨a, xs, rfl, .inr (ex_t (e.trans e2) hx), q H2 e2⟩
theorem rc_isiOwn {C : Addr} {t : Value} {b : Bool} (ht : ∀ H1, Ex H H1 → TyX K H1 x t) (hk : PySem.W.kitOne K t (.ref C) = some b) : RC (rIsi K) [x, .ref C] H (.bl b) := fun H1 e Q q =>
  ⟨x, .ref C, t, .ref C, b, rfl, .own C, ht H1 e, hk, q H1 (Ex.refl H1)⟩
theorem range_ys {xs ys : List V} (hl : ys.length = xs.length) : (List.range xs.length).map (fun i => ys.getD i .non) = ys := by
  have e := range_map ys .non (fun y => y)
  rw [List.map_id', hl] at e
  exact e
/-- comprehensions, the result told by its items -/
theorem el_lcNLy {xs ys : List V} {tl : TE} {j : Nat} {vs : List Nat} (h : EvL tl σ H xs) (hz : xs.length ≤ 40000) (hw : ∀ x, wipe ((wipe σ vs).set j (some x)) vs = wipe σ vs) (hl : ys.length = xs.length)
    (he : ∀ (i : Nat) (x y : V) H1, Ex H H1 → xs[i]? = some x → ys[i]? = some y → Ev te ((wipe σ vs).set j (some x)) H1 y) : EvL (tLc (iList K tl) (gName j) tYes te vs) σ H ys := by
  have g := el_lcNL (K := K) (te := te) (j := j) (vs := vs) (t := tYes) (fun _ => true) (fun i => ys.getD i .non) h hz hw (fun _ _ _ _ _ => et_nil) (fun i x H3 e hc _ => by
    have hi := (List.getElem?_eq_some_iff.mp hc).1
    have hy : ys[i]? = some (ys.getD i .non) := by rw [List.getD_eq_getElem?_getD, List.getElem?_eq_getElem (by omega)]; rfl
    exact he i x _ H3 e hc hy)
  rw [given_all, range_ys hl] at g
  exact g
theorem el_lcLy {a : Addr} {xs ys : List V} {tl : TE} {j : Nat} {vs : List Nat} (h : Ev tl σ H (.ref a)) (hx : SqL K H a xs) (hz : xs.length ≤ 40000) (hw : ∀ x, wipe ((wipe σ vs).set j (some x)) vs = wipe σ vs) (hl : ys.length = xs.length)
    (he : ∀ (i : Nat) (x y : V) H1, Ex H H1 → xs[i]? = some x → ys[i]? = some y → Ev te ((wipe σ vs).set j (some x)) H1 y) : EvL (tLc (iList K tl) (gName j) tYes te vs) σ H ys := by
  have g := el_lcL (K := K) (te := te) (j := j) (vs := vs) (t := tYes) (fun _ => true) (fun i => ys.getD i .non) h hx hz hw (fun _ _ _ _ _ => et_nil) (fun i x H3 e hc _ => by
    have hi := (List.getElem?_eq_some_iff.mp hc).1
    have hy : ys[i]? = some (ys.getD i .non) := by rw [List.getD_eq_getElem?_getD, List.getElem?_eq_getElem (by omega)]; rfl
    exact he i x _ H3 e hc hy)
  rw [given_all, range_ys hl] at g
  exact g
theorem el_lcTy {a : Addr} {xs ys : List V} {tl : TE} {j : Nat} {vs : List Nat} (h : Ev tl σ H (.ref a)) (hx : SqT K H a xs) (hz : xs.length ≤ 40000) (hw : ∀ x, wipe ((wipe σ vs).set j (some x)) vs = wipe σ vs) (hl : ys.length = xs.length)
    (he : ∀ (i : Nat) (x y : V) H1, Ex H H1 → xs[i]? = some x → ys[i]? = some y → Ev te ((wipe σ vs).set j (some x)) H1 y) : EvL (tLc (iTup K tl) (gName j) tYes te vs) σ H ys := by
  have g := el_lcT (K := K) (te := te) (j := j) (vs := vs) (t := tYes) (fun _ => true) (fun i => ys.getD i .non) h hx hz hw (fun _ _ _ _ _ => et_nil) (fun i x H3 e hc _ => by
    have hi := (List.getElem?_eq_some_iff.mp hc).1
    have hy : ys[i]? = some (ys.getD i .non) := by rw [List.getD_eq_getElem?_getD, List.getElem?_eq_getElem (by omega)]; rfl
    exact he i x _ H3 e hc hy)
  rw [given_all, range_ys hl] at g
  exact g
end
end FsE

set_option Elab.async false
set_option linter.all false
set_option maxRecDepth 100000
set_option maxHeartbeats 2000000
/-! A staticmethod that is called off its class. -/
namespace FsR
open PySem PySem.Spec PyProof.Rows L2 ClX
structure SMet (K : PySem.W.Frag) (C : Addr) (mc : Value) (m : Str) (p g : Addr) : Prop where
  at_ : PySem.W.findCls K (.ref C) mc m = some (.get (.builtin "staticmethod.__get__") (.ref p) .none (.ref C))
  rc : ∃ rest, PySem.W.recIn K p "staticmethod" = some (.ref g :: rest)
  kp : PySem.W.keepIn K (.ref g) = true
section
variable {X : Cx} {pins : List (Addr × Obj)} {σ : L2.St} {H : Hp} {s : Shared} {C p g : Addr} {mc : Value} {m : Str} {A : Around} {E : Value → Shared → Prop}
theorem getmethsm_ok {pl : Sem Bool} {Q : Value × List Value → Shared → Prop} (I : Inv X pins σ H s) (r : CRead X.K C mc) (k : SMet X.K C mc m p g)
    (h : ∀ s', Inv X pins σ H s' → Q (.ref g, []) s') : wpAny (model X.prog X.w) A (getMethod (.ref C) m pl) Q E s := by
  obtain ⟨rest, hp⟩ := k.rc
  exact PySem.W.method_cls I.kIn r.ga (PySem.W.cls_bind I.kIn r.rd k.at_ (wpAny_call (PySem.W.sm_get (s := { s with toks := s.toks + 1 }) I.kIn hp (PySem.W.handed_on rfl (h _ (I.tok _))))))
end
/-- C.m(..), e the class at C, m a staticmethod; E: what is wanted of what it raises, at the slots -/
def tStat (C : Addr) (sp : Sp) (E : L2.St → XK) (ta : TE) (t : TA) : TE := fun σ H Q => ta σ H fun x H1 => x = .ref C ∧ t σ H1 fun vs H2 => sp vs H2 Q (E σ)
theorem passesAt_of {CX : CXT} {X : Cx} {E : XK} (h : Passes CX X E) (σ : L2.St) : PassesAt CX X σ E := fun pins H s e s' I c => h pins σ H s e s' I c
section
variable {X : Cx} {CX : CXT} {k : Nat} {C p g : Addr} {mc : Value} {fd : FuncData} {ps : List Str} {sp : Sp} {E : L2.St → XK} {o e : Expr} {es : List Expr} {m : Str} {pos apos : Pos} {ta : TE} {t : TA} {pl : Sem Bool}
theorem pe_stat (he : PE X o ta) (r : CRead X.K C mc) (c : SMet X.K C mc m p g) (F : FnOk X.prog X.w X.K X.mg X.base CX k g fd ps sp) (hr : Room k X.A) (hb : Binds X.K fd ps []) (hx : ∀ σ, PassesAt CX X σ (E σ)) (ha : PA X (e :: es) t)
    (hst : starEach (e :: es) X.env = (false, eval e X.env) :: starEach es X.env := by rfl) (hpl : (backTo pos (starEach es X.env)).any (·.1) = false := by rfl)
    (ht : eval (.Call (.Attribute o m apos) (e :: es) [] pos) X.env = (do
      let ov ← eval o X.env
      standAt apos.atName
      let (f, first) ← holding [ov] (getMethod ov m pl)
      callWith pos f first (backTo pos (starEach (e :: es) X.env)) (backToKw pos (keywordEach [] X.env))) := by rfl) :
    PE X (.Call (.Attribute o m apos) (e :: es) [] pos) (tStat C sp E ta t) := by
  refine ⟨fun pins s σ H Q I h => ?_⟩
  refine PySem.W.methodCall_KW (pl := pl) (thn (he.run pins s σ H _ I h) fun u s1 ⟨x, H1, I1, rx, ex, q⟩ => ?_) ht
  subst ex
  obtain rfl : u = Value.ref C := rx
  refine getmethsm_ok I1 r c fun s2 I2 => ?_
  refine PySem.W.callWith_K (first := []) (h₀ := X.base) I.ok.mod.kin c.kp (thn (ha.run pos pins s2 σ H1 _ I2 q) fun us s3 ⟨vs, H2, I3, rv, q2⟩ => ⟨I3.kIn, ?_⟩) hst hpl
  exact run_fnS F hr hb (hx σ) I3 rv q2
theorem pe_stat0 (he : PE X o ta) (r : CRead X.K C mc) (c : SMet X.K C mc m p g) (F : FnOk X.prog X.w X.K X.mg X.base CX k g fd ps sp) (hr : Room k X.A) (hb : Binds X.K fd ps []) (hx : ∀ σ, PassesAt CX X σ (E σ))
    (ht : eval (.Call (.Attribute o m apos) [] [] pos) X.env = (do
      let ov ← eval o X.env
      standAt apos.atName
      let (f, first) ← holding [ov] (getMethod ov m pl)
      callWith pos f first (backTo pos (starEach [] X.env)) (backToKw pos (keywordEach [] X.env))) := by rfl) :
    PE X (.Call (.Attribute o m apos) [] [] pos) (tStat C sp E ta tNil) := by
  refine ⟨fun pins s σ H Q I h => ?_⟩
  refine PySem.W.methodCall_KW (pl := pl) (thn (he.run pins s σ H _ I h) fun u s1 ⟨x, H1, I1, rx, ex, q⟩ => ?_) ht
  subst ex
  obtain rfl : u = Value.ref C := rx
  refine getmethsm_ok I1 r c fun s2 I2 => ?_
  exact PySem.W.callWith_K0 (first := []) I2.kIn c.kp (run_fnS (us := []) (vs := []) F hr hb (hx σ) I2 .nil q)
end
end FsR

set_option Elab.async false
set_option linter.all false
set_option maxRecDepth 100000
set_option maxHeartbeats 2000000
namespace FsC
open PySem L2 Evl ClX FsR
/-- a def of the module that may be called by its name -/
structure CalX (P : Program) (w : World) (K : PySem.W.Frag) (mg : Str → Option Value) (base : Heap) (CX : CXT) (k : Nat) (x : Str) (sp : Sp) : Prop where
  ex : ∃ (f : Addr) (fd : FuncData) (ps : List Str), FnOk P w K mg base CX k f fd ps sp ∧ mg x = some (.ref f) ∧ PySem.W.keepIn K (.ref f) = true ∧ Binds K fd ps []
/-- C.m, a staticmethod of the class at C -/
structure StaX (P : Program) (w : World) (K : PySem.W.Frag) (mg : Str → Option Value) (base : Heap) (CX : CXT) (k : Nat) (C : Addr) (m : Str) (sp : Sp) : Prop where
  ex : ∃ (p f : Addr) (mc : Value) (fd : FuncData) (ps : List Str), CRead K C mc ∧ SMet K C mc m p f ∧ FnOk P w K mg base CX k f fd ps sp ∧ Binds K fd ps []
/-- C(..): a class that is made by its name -/
structure MakX (P : Program) (w : World) (K : PySem.W.Frag) (mg : Str → Option Value) (base : Heap) (CX : CXT) (k : Nat) (x : Str) (C : Addr) (sp : Sp) : Prop where
  ex : ∃ (f : Addr) (fd : FuncData) (ps : List Str), Mk K C f ∧ FnOk P w K mg base CX k f fd ps sp ∧ mg x = some (.ref C) ∧ Binds K fd ps []
section
variable {X : Cx} {CX : CXT} {k j : Nat} {C : Addr} {x m : Str} {sp : Sp} {E : L2.St → XK} {p pos apos : Pos} {e o : Expr} {es : List Expr} {ta : TE} {t : TA}
theorem pe_cx (c : CalX X.prog X.w X.K X.mg X.base CX k x sp) (hr : Room j X.A) (hk : k ≤ j) (hg : Gl X x) (hx : ∀ σ, PassesAt CX X σ (E σ)) (ha : PA X (e :: es) t)
    (hdb : (x == ("__debug__" : Str)) = false := by decide) (he : starEach (e :: es) X.env = (false, eval e X.env) :: starEach es X.env := by rfl) (hpl : (backTo pos (starEach es X.env)).any (·.1) = false := by rfl) :
    PE X (.Call (.Name x p) (e :: es) [] pos) (tCallS sp E t) := by
  obtain ⟨f, fd, ps, F, hm, kp, b⟩ := c.ex
  exact pe_callS F (hr.mono hk) hg hm kp b hx ha hdb he hpl
theorem pe_sx {pl : Sem Bool} (c : StaX X.prog X.w X.K X.mg X.base CX k C m sp) (hr : Room j X.A) (hk : k ≤ j) (ho : PE X o ta) (hx : ∀ σ, PassesAt CX X σ (E σ)) (ha : PA X (e :: es) t)
    (hst : starEach (e :: es) X.env = (false, eval e X.env) :: starEach es X.env := by rfl) (hpl : (backTo pos (starEach es X.env)).any (·.1) = false := by rfl)
    (ht : eval (.Call (.Attribute o m apos) (e :: es) [] pos) X.env = (do
      let ov ← eval o X.env
      standAt apos.atName
      let (f, first) ← holding [ov] (getMethod ov m pl)
      callWith pos f first (backTo pos (starEach (e :: es) X.env)) (backToKw pos (keywordEach [] X.env))) := by rfl) :
    PE X (.Call (.Attribute o m apos) (e :: es) [] pos) (tStat C sp E ta t) := by
  obtain ⟨p, f, mc, fd, ps, r, s, F, b⟩ := c.ex
  exact pe_stat (pl := pl) ho r s F (hr.mono hk) b hx ha hst hpl ht
theorem pe_sx0 {pl : Sem Bool} (c : StaX X.prog X.w X.K X.mg X.base CX k C m sp) (hr : Room j X.A) (hk : k ≤ j) (ho : PE X o ta) (hx : ∀ σ, PassesAt CX X σ (E σ))
    (ht : eval (.Call (.Attribute o m apos) [] [] pos) X.env = (do
      let ov ← eval o X.env
      standAt apos.atName
      let (f, first) ← holding [ov] (getMethod ov m pl)
      callWith pos f first (backTo pos (starEach [] X.env)) (backToKw pos (keywordEach [] X.env))) := by rfl) :
    PE X (.Call (.Attribute o m apos) [] [] pos) (tStat C sp E ta tNil) := by
  obtain ⟨p, f, mc, fd, ps, r, s, F, b⟩ := c.ex
  exact pe_stat0 (pl := pl) ho r s F (hr.mono hk) b hx ht
theorem pe_mx {E : XK} (c : MakX X.prog X.w X.K X.mg X.base CX k x C sp) (hr : Room j X.A) (hk : k + 1 ≤ j) (hg : Gl X x) (hx : Passes CX X E) (ha : PA X (e :: es) t)
    (hdb : (x == ("__debug__" : Str)) = false := by decide) (he : starEach (e :: es) X.env = (false, eval e X.env) :: starEach es X.env := by rfl) (hpl : (backTo pos (starEach es X.env)).any (·.1) = false := by rfl) :
    PE X (.Call (.Name x p) (e :: es) [] pos) (tMake C sp [] E t) := by
  obtain ⟨f, fd, ps, M, F, hm, b⟩ := c.ex
  exact pe_make M F (hr.mono hk) hg hm b .nil hx ha hdb he hpl
theorem at0 {X : Cx} {E : L2.St → XK} : ∀ σ, PassesAt CX0 X σ (E σ) := fun _ _ _ _ _ _ _ h => h.elim
/-- what a call within a def that may raise lets out -/
theorem atX {P : Program} {w : World} {X : Cx} {E : XK} (h : Passes (L2.CX P w) X E) : ∀ σ, PassesAt (L2.CX P w) X σ ((fun _ => E) σ) := fun σ => passesAt_of h σ
end
section
variable {σ : L2.St} {H : Hp} {z : V} {sp : Sp} {ta : TA} {vs : List V} {E : L2.St → XK}
theorem ev_cx (h : EvA ta σ H vs) (hs : SpV sp vs H z) : Ev (tCallS sp E ta) σ H z := fun H1 e Q q =>
  h H1 e _ fun H2 e2 => hs H2 (e.trans e2) Q (fun H3 e3 => q H3 (e2.trans e3)) (E σ)
theorem ev_sx {C : Addr} {to : TE} (ho : Ev to σ H (.ref C)) (h : EvA ta σ H vs) (hs : SpV sp vs H z) : Ev (tStat C sp E to ta) σ H z := fun H1 e Q q =>
  ho H1 e _ fun H2 e2 => ⟨rfl, h H2 (e.trans e2) _ fun H3 e3 => hs H3 ((e.trans e2).trans e3) Q (fun H4 e4 => q H4 ((e2.trans e3).trans e4)) (E σ)⟩
theorem el_cx {xs : List V} (h : EvA ta σ H vs) (hs : SpL sp vs H xs) : EvL (tCallS sp E ta) σ H xs := fun H1 e Q q =>
  h H1 e _ fun H2 e2 => hs H2 (e.trans e2) Q (fun p H3 hp e3 h3 => q p H3 (fresh_back e2 hp) (e2.trans e3) h3) (E σ)
end
end FsC

set_option Elab.async false
set_option linter.all false
set_option maxRecDepth 100000
set_option maxHeartbeats 2000000
namespace Fs
open PySem L2 Evl
/-! ### operands, processes, offers -/
inductive Opd where
  | int (i : Int)
  | nm (z : Str)
def Opd.v : Opd → V
  | .int i => .int i
  | .nm z => .str z
mutual
inductive Pr where
  | choice (os : Ofs)
  | new (n : Str) (k : Int) (r : Pr)
  | cond (l r : Opd) (y n : Pr)
  | call (n : Str) (ops : List Opd)
inductive Ofs where
  | nil
  | cons (c : Str) (seat seats : Int) (op : Opd) (names : List Str) (rest : Pr) (os : Ofs)
end
mutual
def Pr.depth : Pr → Int
  | .choice os => 1 + os.depth
  | .new _ _ r => 1 + r.depth
  | .cond _ _ y n => 1 + max y.depth n.depth
  | .call _ _ => 1
def Ofs.depth : Ofs → Int
  | .nil => 0
  | .cons _ _ _ _ _ r os => max r.depth os.depth
end
def Ofs.len : Ofs → Nat
  | .nil => 0
  | .cons _ _ _ _ _ _ os => os.len + 1
mutual
def Pr.size : Pr → Int
  | .choice os => max 1 (os.len : Int) + os.sum
  | .new _ _ r => 1 + r.size
  | .cond _ _ y n => 1 + (y.size + n.size)
  | .call _ _ => 1
def Ofs.sum : Ofs → Int
  | .nil => 0
  | .cons _ _ _ _ _ r os => r.size + os.sum
end
def Pr.kind : Pr → Str
  | .choice _ => "choice"
  | .new _ _ _ => "new"
  | .cond _ _ _ _ => "if"
  | .call _ _ => "call"
/-- the attributes, in the order in which __init__ stores them -/
def pFlds (k : Str) (t : Addr) (d z : Int) : List (Str × V) := putF "size" (.int z) (putF "depth" (.int d) (putF "parts" (.ref t) (putF "kind" (.str k) [])))
theorem n1 : ¬ (("kind" : Str) = "parts") := by decide +kernel
theorem n2 : ¬ (("kind" : Str) = "depth") := by decide +kernel
theorem n3 : ¬ (("kind" : Str) = "size") := by decide +kernel
theorem n4 : ¬ (("parts" : Str) = "depth") := by decide +kernel
theorem n5 : ¬ (("parts" : Str) = "size") := by decide +kernel
theorem n6 : ¬ (("depth" : Str) = "size") := by decide +kernel
theorem pf_kind {k : Str} {t : Addr} {d z : Int} : (pFlds k t d z).lookup ("kind" : Str) = some (.str k) := by
  unfold pFlds
  rw [lookup_putF, if_neg n3, lookup_putF, if_neg n2, lookup_putF, if_neg n1, lookup_putF, if_pos rfl]
theorem pf_parts {k : Str} {t : Addr} {d z : Int} : (pFlds k t d z).lookup ("parts" : Str) = some (.ref t) := by
  unfold pFlds
  rw [lookup_putF, if_neg n5, lookup_putF, if_neg n4, lookup_putF, if_pos rfl]
theorem pf_depth {k : Str} {t : Addr} {d z : Int} : (pFlds k t d z).lookup ("depth" : Str) = some (.int d) := by
  unfold pFlds
  rw [lookup_putF, if_neg n6, lookup_putF, if_pos rfl]
theorem pf_size {k : Str} {t : Addr} {d z : Int} : (pFlds k t d z).lookup ("size" : Str) = some (.int z) := by
  unfold pFlds
  rw [lookup_putF, if_pos rfl]
/-- an instance of the class at C with these parts -/
def InsAt (C : Addr) (H : Hp) (a : Addr) (k : Str) (t : Addr) (d z : Int) : Prop := ∃ dx, H a = some (.ins C dx (pFlds k t d z))
mutual
/-- at a stands the process p -/
def PrAt (C : Addr) (H : Hp) (a : Addr) : Pr → Prop
  | .choice os => ∃ t ps, InsAt C H a "choice" t (1 + os.depth) (max 1 (os.len : Int) + os.sum) ∧ H t = some (.tup ps) ∧ OfsAt C H ps os
  | .new n k r => ∃ t b, InsAt C H a "new" t (1 + r.depth) (1 + r.size) ∧ H t = some (.tup [.str n, .int k, .ref b]) ∧ PrAt C H b r
  | .cond l r y n => ∃ t b c, InsAt C H a "if" t (1 + max y.depth n.depth) (1 + (y.size + n.size)) ∧ H t = some (.tup [l.v, r.v, .ref b, .ref c]) ∧ PrAt C H b y ∧ PrAt C H c n
  | .call n ops => ∃ t u, InsAt C H a "call" t 1 1 ∧ H t = some (.tup [.str n, .ref u]) ∧ H u = some (.tup (ops.map Opd.v))
def OfsAt (C : Addr) (H : Hp) (ps : List V) : Ofs → Prop
  | .nil => ps = []
  | .cons c s m op ns r os => ∃ o u b qs, ps = .ref o :: qs ∧ H o = some (.tup [.str c, .int s, .int m, op.v, .ref u, .ref b]) ∧ H u = some (.tup (ns.map V.str)) ∧ PrAt C H b r ∧ OfsAt C H qs os
end
theorem InsAt.ex {C : Addr} {H H' : Hp} {a : Addr} {k : Str} {t : Addr} {d z : Int} (e : Ex H H') (h : InsAt C H a k t d z) : InsAt C H' a k t d z := by
  obtain ⟨dx, h⟩ := h
  exact ⟨dx, e _ _ h⟩
mutual
theorem PrAt.ex {C : Addr} {H H' : Hp} (e : Ex H H') : ∀ {p : Pr} {a : Addr}, PrAt C H a p → PrAt C H' a p
  | .choice os, a, h => by
    unfold PrAt at h ⊢
    obtain ⟨t, ps, h1, h2, h3⟩ := h
    exact ⟨t, ps, h1.ex e, e _ _ h2, OfsAt.ex e h3⟩
  | .new n k r, a, h => by
    unfold PrAt at h ⊢
    obtain ⟨t, b, h1, h2, h3⟩ := h
    exact ⟨t, b, h1.ex e, e _ _ h2, PrAt.ex e h3⟩
  | .cond l r y n, a, h => by
    unfold PrAt at h ⊢
    obtain ⟨t, b, c, h1, h2, h3, h4⟩ := h
    exact ⟨t, b, c, h1.ex e, e _ _ h2, PrAt.ex e h3, PrAt.ex e h4⟩
  | .call n ops, a, h => by
    unfold PrAt at h ⊢
    obtain ⟨t, u, h1, h2, h3⟩ := h
    exact ⟨t, u, h1.ex e, e _ _ h2, e _ _ h3⟩
theorem OfsAt.ex {C : Addr} {H H' : Hp} (e : Ex H H') : ∀ {os : Ofs} {ps : List V}, OfsAt C H ps os → OfsAt C H' ps os
  | .nil, ps, h => by
    unfold OfsAt at h ⊢
    exact h
  | .cons c s m op ns r os, ps, h => by
    unfold OfsAt at h ⊢
    obtain ⟨o, u, b, qs, h1, h2, h3, h4, h5⟩ := h
    exact ⟨o, u, b, qs, h1, e _ _ h2, e _ _ h3, PrAt.ex e h4, OfsAt.ex e h5⟩
end
/-- whatever the process: its instance -/
theorem PrAt.ins {C : Addr} {H : Hp} {p : Pr} {a : Addr} (h : PrAt C H a p) : ∃ t ps, InsAt C H a p.kind t p.depth p.size ∧ H t = some (.tup ps) := by
  cases p with
  | choice os =>
    unfold PrAt at h
    obtain ⟨t, ps, h1, h2, _⟩ := h
    exact ⟨t, ps, by unfold Pr.kind Pr.depth Pr.size; exact h1, h2⟩
  | new n k r =>
    unfold PrAt at h
    obtain ⟨t, b, h1, h2, _⟩ := h
    exact ⟨t, _, by unfold Pr.kind Pr.depth Pr.size; exact h1, h2⟩
  | cond l r y n =>
    unfold PrAt at h
    obtain ⟨t, b, c, h1, h2, _⟩ := h
    exact ⟨t, _, by unfold Pr.kind Pr.depth Pr.size; exact h1, h2⟩
  | call n ops =>
    unfold PrAt at h
    obtain ⟨t, u, h1, h2, _⟩ := h
    exact ⟨t, _, by unfold Pr.kind Pr.depth Pr.size; exact h1, h2⟩
end Fs

set_option Elab.async false
set_option linter.all false
set_option maxRecDepth 100000
set_option maxHeartbeats 2000000
namespace Fs
open PySem L2 Evl FsE FsC FsR
/-- the parts of a process, as its tuple holds them -/
def PartsAt (C : Addr) (H : Hp) (ps : List V) : Pr → Prop
  | .choice os => OfsAt C H ps os
  | .new n k r => ∃ b, ps = [.str n, .int k, .ref b] ∧ PrAt C H b r
  | .cond l r y n => ∃ b c, ps = [l.v, r.v, .ref b, .ref c] ∧ PrAt C H b y ∧ PrAt C H c n
  | .call n ops => ∃ u, ps = [.str n, .ref u] ∧ H u = some (.tup (ops.map Opd.v))
theorem PartsAt.ex {C : Addr} {H H' : Hp} {ps : List V} {p : Pr} (e : Ex H H') (h : PartsAt C H ps p) : PartsAt C H' ps p := by
  cases p with
  | choice os => exact OfsAt.ex e h
  | new n k r =>
    obtain ⟨b, h1, h2⟩ := h
    exact ⟨b, h1, h2.ex e⟩
  | cond l r y n =>
    obtain ⟨b, c, h1, h2, h3⟩ := h
    exact ⟨b, c, h1, h2.ex e, h3.ex e⟩
  | call n ops =>
    obtain ⟨u, h1, h2⟩ := h
    exact ⟨u, h1, e _ _ h2⟩
theorem PrAt.mk {C : Addr} {H : Hp} {a t : Addr} {ps : List V} {p : Pr} (h1 : InsAt C H a p.kind t p.depth p.size) (h2 : H t = some (.tup ps)) (h3 : PartsAt C H ps p) : PrAt C H a p := by
  cases p with
  | choice os =>
    unfold PrAt
    unfold Pr.kind Pr.depth Pr.size at h1
    exact ⟨t, ps, h1, h2, h3⟩
  | new n k r =>
    unfold PrAt
    unfold Pr.kind Pr.depth Pr.size at h1
    obtain ⟨b, rfl, h4⟩ := h3
    exact ⟨t, b, h1, h2, h4⟩
  | cond l r y n =>
    unfold PrAt
    unfold Pr.kind Pr.depth Pr.size at h1
    obtain ⟨b, c, rfl, h4, h5⟩ := h3
    exact ⟨t, b, c, h1, h2, h4, h5⟩
  | call n ops =>
    unfold PrAt
    unfold Pr.kind Pr.depth Pr.size at h1
    obtain ⟨u, rfl, h4⟩ := h3
    exact ⟨t, u, h1, h2, h4⟩
theorem PrAt.out {C : Addr} {H : Hp} {a : Addr} {p : Pr} (h : PrAt C H a p) : ∃ t ps, InsAt C H a p.kind t p.depth p.size ∧ H t = some (.tup ps) ∧ PartsAt C H ps p := by
  cases p with
  | choice os =>
    unfold PrAt at h
    obtain ⟨t, ps, h1, h2, h3⟩ := h
    exact ⟨t, ps, by unfold Pr.kind Pr.depth Pr.size; exact h1, h2, h3⟩
  | new n k r =>
    unfold PrAt at h
    obtain ⟨t, b, h1, h2, h3⟩ := h
    exact ⟨t, _, by unfold Pr.kind Pr.depth Pr.size; exact h1, h2, b, rfl, h3⟩
  | cond l r y n =>
    unfold PrAt at h
    obtain ⟨t, b, c, h1, h2, h3, h4⟩ := h
    exact ⟨t, _, by unfold Pr.kind Pr.depth Pr.size; exact h1, h2, b, c, rfl, h3, h4⟩
  | call n ops =>
    unfold PrAt at h
    obtain ⟨t, u, h1, h2, h3⟩ := h
    exact ⟨t, _, by unfold Pr.kind Pr.depth Pr.size; exact h1, h2, u, rfl, h3⟩
/-! ### what is contained directly -/
def Ofs.rests : Ofs → List Pr
  | .nil => []
  | .cons _ _ _ _ _ r os => r :: os.rests
def Pr.inner : Pr → List Pr
  | .choice os => os.rests
  | .new _ _ r => [r]
  | .cond _ _ y n => [y, n]
  | .call _ _ => []
/-- a list of processes, by their addresses -/
def InnAt (C : Addr) (H : Hp) : List V → List Pr → Prop
  | [], [] => True
  | x :: xs, p :: ps => (∃ a, x = .ref a ∧ PrAt C H a p) ∧ InnAt C H xs ps
  | _, _ => False
theorem InnAt.ex {C : Addr} {H H' : Hp} (e : Ex H H') : ∀ {xs : List V} {ps : List Pr}, InnAt C H xs ps → InnAt C H' xs ps
  | [], [], _ => True.intro
  | x :: xs, p :: ps, ⟨⟨a, h1, h2⟩, h3⟩ => ⟨⟨a, h1, h2.ex e⟩, InnAt.ex e h3⟩
  | [], _ :: _, h => h.elim
  | _ :: _, [], h => h.elim
theorem InnAt.get {C : Addr} {H : Hp} : ∀ {xs : List V} {ps : List Pr} {x : V}, InnAt C H xs ps → x ∈ xs → ∃ a p, x = .ref a ∧ PrAt C H a p ∧ p ∈ ps
  | [], _, _, _, hx => nomatch hx
  | y :: xs, [], _, h, _ => h.elim
  | y :: xs, p :: ps, x, ⟨⟨a, h1, h2⟩, h3⟩, hx => by
    rcases List.mem_cons.mp hx with rfl | hx
    · exact ⟨a, p, h1, h2, List.mem_cons_self⟩
    · obtain ⟨b, q, k1, k2, k3⟩ := InnAt.get h3 hx
      exact ⟨b, q, k1, k2, List.mem_cons_of_mem _ k3⟩
theorem InnAt.length {C : Addr} {H : Hp} : ∀ {xs : List V} {ps : List Pr}, InnAt C H xs ps → xs.length = ps.length
  | [], [], _ => rfl
  | x :: xs, p :: ps, ⟨_, h⟩ => congrArg (· + 1) (InnAt.length h)
  | [], _ :: _, h => h.elim
  | _ :: _, [], h => h.elim
theorem Ofs.rests_len : ∀ os : Ofs, os.rests.length = os.len
  | .nil => rfl
  | .cons _ _ _ _ _ r os => congrArg (· + 1) (Ofs.rests_len os)
/-- the greatest depth, the sum of the sizes -/
theorem Ofs.sum_eq : ∀ os : Ofs, os.sum = (os.rests.map Pr.size).sum
  | .nil => rfl
  | .cons _ _ _ _ _ r os => by
    unfold Ofs.sum Ofs.rests
    rw [List.map_cons, List.sum_cons, Ofs.sum_eq os]
mutual
theorem Pr.depth_pos : ∀ p : Pr, 1 ≤ p.depth
  | .choice os => by
    unfold Pr.depth
    have := Ofs.depth_nn os
    omega
  | .new _ _ r => by
    unfold Pr.depth
    have := Pr.depth_pos r
    omega
  | .cond _ _ y n => by
    unfold Pr.depth
    have := Pr.depth_pos y
    have := Pr.depth_pos n
    omega
  | .call _ _ => by
    unfold Pr.depth
    omega
theorem Ofs.depth_nn : ∀ os : Ofs, 0 ≤ os.depth
  | .nil => by
    unfold Ofs.depth
    omega
  | .cons _ _ _ _ _ r os => by
    unfold Ofs.depth
    have := Pr.depth_pos r
    omega
end
theorem maxFrom_ge : ∀ (ys : List Int) (y : Int), maxFrom y ys = max y (maxFrom 0 ys) ∨ (y < 0)
  | [], y => by
    unfold maxFrom
    simp only [List.foldl_nil]
    omega
  | z :: zs, y => by
    have h1 := maxFrom_ge zs (max y z)
    have h2 := maxFrom_ge zs (max 0 z)
    unfold maxFrom at *
    simp only [List.foldl_cons]
    omega
theorem Ofs.depth_eq : ∀ os : Ofs, maxDef 0 (os.rests.map Pr.depth) = os.depth
  | .nil => rfl
  | .cons _ _ _ _ _ r os => by
    unfold Ofs.rests Ofs.depth
    rw [List.map_cons]
    show maxFrom r.depth (os.rests.map Pr.depth) = max r.depth os.depth
    have ih := Ofs.depth_eq os
    have hr := Pr.depth_pos r
    cases hr2 : os.rests.map Pr.depth with
    | nil =>
      rw [hr2] at ih
      have e0 : (0 : Int) = os.depth := ih
      unfold maxFrom
      simp only [List.foldl_nil]
      omega
    | cons y ys =>
      rw [hr2] at ih
      have e0 : maxFrom y ys = os.depth := ih
      have hy : 1 ≤ y := by
        have : y ∈ os.rests.map Pr.depth := by rw [hr2]; exact List.mem_cons_self
        obtain ⟨q, _, rfl⟩ := List.mem_map.mp this
        exact Pr.depth_pos q
      have h1 := maxFrom_ge ys y
      have h2 := maxFrom_ge ys (max r.depth y)
      show maxFrom (max r.depth y) ys = _
      omega
theorem Pr.depth_eq (p : Pr) : 1 + maxDef 0 (p.inner.map Pr.depth) = p.depth := by
  cases p with
  | choice os =>
    unfold Pr.inner Pr.depth
    rw [Ofs.depth_eq]
  | new n k r =>
    unfold Pr.depth
    rfl
  | cond l r y n =>
    unfold Pr.depth
    rfl
  | call n ops =>
    unfold Pr.depth
    rfl
def Pr.own : Pr → Int
  | .choice os => max 1 (os.len : Int)
  | _ => 1
theorem Pr.size_eq (p : Pr) : p.own + (p.inner.map Pr.size).sum = p.size := by
  cases p with
  | choice os =>
    unfold Pr.inner Pr.size Pr.own
    rw [Ofs.sum_eq]
  | new n k r =>
    unfold Pr.size Pr.own Pr.inner
    simp
  | cond l r y n =>
    unfold Pr.size Pr.own Pr.inner
    simp
  | call n ops =>
    unfold Pr.size Pr.own Pr.inner
    simp
theorem OfsAt.len {C : Addr} {H : Hp} : ∀ {os : Ofs} {ps : List V}, OfsAt C H ps os → ps.length = os.len
  | .nil, ps, h => by
    unfold OfsAt at h
    rw [h]
    rfl
  | .cons c s m op ns r os, ps, h => by
    unfold OfsAt at h
    obtain ⟨o, u, b, qs, h1, _, _, _, h5⟩ := h
    rw [h1]
    exact congrArg (· + 1) (OfsAt.len h5)
/-- the rests of the offers -/
theorem OfsAt.rests {C : Addr} {H : Hp} : ∀ {os : Ofs} {ps : List V}, OfsAt C H ps os → ∃ rs : List V, rs.length = ps.length ∧ InnAt C H rs os.rests ∧
    ∀ (i : Nat) (x : V), ps[i]? = some x → ∃ (o : Addr) (c : Str) (s m : Int) (op : Opd) (u : Addr) (y : V), x = .ref o ∧ rs[i]? = some y ∧ H o = some (.tup [.str c, .int s, .int m, op.v, .ref u, y])
  | .nil, ps, h => by
    unfold OfsAt at h
    subst h
    exact ⟨[], rfl, True.intro, fun i x hx => by simp at hx⟩
  | .cons c s m op ns r os, ps, h => by
    unfold OfsAt at h
    obtain ⟨o, u, b, qs, rfl, h2, h3, h4, h5⟩ := h
    obtain ⟨rs, k1, k2, k3⟩ := OfsAt.rests h5
    refine ⟨.ref b :: rs, congrArg (· + 1) k1, ⟨⟨b, rfl, h4⟩, k2⟩, fun i x hx => ?_⟩
    cases i with
    | zero =>
      have e : V.ref o = x := by simpa using hx
      subst e
      exact ⟨o, c, s, m, op, u, .ref b, rfl, rfl, h2⟩
    | succ i =>
      obtain ⟨o', c', s', m', op', u', y', z1, z2, z3⟩ := k3 i x (by simpa using hx)
      exact ⟨o', c', s', m', op', u', y', z1, by simpa using z2, z3⟩
/-- rs: what a process with these parts contains directly -/
def InnOf (C : Addr) (H : Hp) (ps rs : List V) : Pr → Prop
  | .choice os => rs.length = ps.length ∧ InnAt C H rs os.rests ∧
    ∀ (i : Nat) (x : V), ps[i]? = some x → ∃ (o : Addr) (c : Str) (s m : Int) (op : Opd) (u : Addr) (y : V), x = .ref o ∧ rs[i]? = some y ∧ H o = some (.tup [.str c, .int s, .int m, op.v, .ref u, y])
  | .new n k r => ∃ b, ps = [.str n, .int k, .ref b] ∧ rs = [.ref b] ∧ PrAt C H b r
  | .cond l r y n => ∃ b c, ps = [l.v, r.v, .ref b, .ref c] ∧ rs = [.ref b, .ref c] ∧ PrAt C H b y ∧ PrAt C H c n
  | .call n ops => ∃ u, ps = [.str n, .ref u] ∧ rs = [] ∧ H u = some (.tup (ops.map Opd.v))
theorem InnOf.ex {C : Addr} {H H' : Hp} {ps rs : List V} {p : Pr} (e : Ex H H') (h : InnOf C H ps rs p) : InnOf C H' ps rs p := by
  cases p with
  | choice os =>
    obtain ⟨h1, h2, h3⟩ := h
    refine ⟨h1, h2.ex e, fun i x hx => ?_⟩
    obtain ⟨o, c, s, m, op, u, y, z1, z2, z3⟩ := h3 i x hx
    exact ⟨o, c, s, m, op, u, y, z1, z2, e _ _ z3⟩
  | new n k r =>
    obtain ⟨b, h1, h2, h3⟩ := h
    exact ⟨b, h1, h2, h3.ex e⟩
  | cond l r y n =>
    obtain ⟨b, c, h1, h2, h3, h4⟩ := h
    exact ⟨b, c, h1, h2, h3.ex e, h4.ex e⟩
  | call n ops =>
    obtain ⟨u, h1, h2, h3⟩ := h
    exact ⟨u, h1, h2, e _ _ h3⟩
theorem PartsAt.inn {C : Addr} {H : Hp} {ps : List V} {p : Pr} (h : PartsAt C H ps p) : ∃ rs, InnOf C H ps rs p := by
  cases p with
  | choice os =>
    obtain ⟨rs, h1, h2, h3⟩ := OfsAt.rests h
    exact ⟨rs, h1, h2, h3⟩
  | new n k r =>
    obtain ⟨b, h1, h2⟩ := h
    exact ⟨[.ref b], b, h1, rfl, h2⟩
  | cond l r y n =>
    obtain ⟨b, c, h1, h2, h3⟩ := h
    exact ⟨[.ref b, .ref c], b, c, h1, rfl, h2, h3⟩
  | call n ops =>
    obtain ⟨u, h1, h2⟩ := h
    exact ⟨[], u, h1, rfl, h2⟩
theorem InnOf.at {C : Addr} {H : Hp} {ps rs : List V} {p : Pr} (h : InnOf C H ps rs p) : InnAt C H rs p.inner := by
  cases p with
  | choice os => exact h.2.1
  | new n k r =>
    obtain ⟨b, _, rfl, h3⟩ := h
    exact ⟨⟨b, rfl, h3⟩, True.intro⟩
  | cond l r y n =>
    obtain ⟨b, c, _, rfl, h3, h4⟩ := h
    exact ⟨⟨b, rfl, h3⟩, ⟨c, rfl, h4⟩, True.intro⟩
  | call n ops =>
    obtain ⟨u, _, rfl, _⟩ := h
    exact True.intro
theorem InnAt.at_ {C : Addr} {H : Hp} : ∀ {xs : List V} {ps : List Pr} {i : Nat} {x : V}, InnAt C H xs ps → xs[i]? = some x → ∃ a p, x = .ref a ∧ PrAt C H a p ∧ ps[i]? = some p
  | [], _, _, _, _, hx => by simp at hx
  | y :: xs, [], _, _, h, _ => h.elim
  | y :: xs, p :: ps, 0, x, ⟨⟨a, h1, h2⟩, h3⟩, hx => by
    have e : y = x := by simpa using hx
    subst e
    exact ⟨a, p, h1, h2, rfl⟩
  | y :: xs, p :: ps, i + 1, x, ⟨_, h3⟩, hx => by
    obtain ⟨b, q, k1, k2, k3⟩ := InnAt.at_ (i := i) h3 (by simpa using hx)
    exact ⟨b, q, k1, k2, by simpa using k3⟩
end Fs

set_option Elab.async false
set_option linter.all false
set_option maxRecDepth 100000
set_option maxHeartbeats 2000000
/-! Lists of things that stand in the heap; what a list's change leaves. -/
namespace FsK
open PySem PySem.Spec PyProof.Rows L2 Evl FsE FsC FsR Fs
/-- a list may change: what stands in objects and tuples stays -/
structure ExN (H H' : Hp) : Prop where
  ins : ∀ a C dx fs, H a = some (.ins C dx fs) → H' a = some (.ins C dx fs)
  tup : ∀ a xs, H a = some (.tup xs) → H' a = some (.tup xs)
theorem ExN.upd {H : Hp} {l : Addr} {xs ys : List V} (h : H l = some (.lst xs)) : ExN H (upd H l (.lst ys)) := ⟨fun a C dx fs ha => by
    rw [upd_ne (fun z => by rw [z, h] at ha; cases ha)]
    exact ha, fun a xs ha => by
    rw [upd_ne (fun z => by rw [z, h] at ha; cases ha)]
    exact ha⟩
theorem ExN.of {H H' : Hp} (e : Ex H H') : ExN H H' := ⟨fun _ _ _ _ h => e _ _ h, fun _ _ h => e _ _ h⟩
theorem ExN.trans {H H1 H2 : Hp} (e : ExN H H1) (e' : ExN H1 H2) : ExN H H2 := ⟨fun a C dx fs h => e'.ins _ _ _ _ (e.ins _ _ _ _ h), fun a xs h => e'.tup _ _ (e.tup _ _ h)⟩
mutual
theorem PrAt.keep {C : Addr} {H H' : Hp} (e : ExN H H') : ∀ {p : Pr} {a : Addr}, PrAt C H a p → PrAt C H' a p
  | .choice os, a, h => by
    unfold PrAt at h ⊢
    obtain ⟨t, ps, ⟨dx, h1⟩, h2, h3⟩ := h
    exact ⟨t, ps, ⟨dx, e.ins _ _ _ _ h1⟩, e.tup _ _ h2, OfsAt.keep e h3⟩
  | .new n k r, a, h => by
    unfold PrAt at h ⊢
    obtain ⟨t, b, ⟨dx, h1⟩, h2, h3⟩ := h
    exact ⟨t, b, ⟨dx, e.ins _ _ _ _ h1⟩, e.tup _ _ h2, PrAt.keep e h3⟩
  | .cond l r y n, a, h => by
    unfold PrAt at h ⊢
    obtain ⟨t, b, c, ⟨dx, h1⟩, h2, h3, h4⟩ := h
    exact ⟨t, b, c, ⟨dx, e.ins _ _ _ _ h1⟩, e.tup _ _ h2, PrAt.keep e h3, PrAt.keep e h4⟩
  | .call n ops, a, h => by
    unfold PrAt at h ⊢
    obtain ⟨t, u, ⟨dx, h1⟩, h2, h3⟩ := h
    exact ⟨t, u, ⟨dx, e.ins _ _ _ _ h1⟩, e.tup _ _ h2, e.tup _ _ h3⟩
theorem OfsAt.keep {C : Addr} {H H' : Hp} (e : ExN H H') : ∀ {os : Ofs} {ps : List V}, OfsAt C H ps os → OfsAt C H' ps os
  | .nil, ps, h => by
    unfold OfsAt at h ⊢
    exact h
  | .cons c s m op ns r os, ps, h => by
    unfold OfsAt at h ⊢
    obtain ⟨o, u, b, qs, h1, h2, h3, h4, h5⟩ := h
    exact ⟨o, u, b, qs, h1, e.tup _ _ h2, e.tup _ _ h3, PrAt.keep e h4, OfsAt.keep e h5⟩
end
/-- item by item -/
def LsA {α : Type} (R : Hp → V → α → Prop) (H : Hp) : List V → List α → Prop
  | [], [] => True
  | v :: vs, x :: xs => R H v x ∧ LsA R H vs xs
  | _, _ => False
section
variable {α : Type} {R : Hp → V → α → Prop} {H H' : Hp}
theorem LsA.imp (e : ∀ v x, R H v x → R H' v x) : ∀ {vs : List V} {xs : List α}, LsA R H vs xs → LsA R H' vs xs
  | [], [], _ => True.intro
  | _ :: _, _ :: _, h => ⟨e _ _ h.1, LsA.imp e h.2⟩
  | [], _ :: _, h => h.elim
  | _ :: _, [], h => h.elim
theorem LsA.append : ∀ {vs ws : List V} {xs ys : List α}, LsA R H vs xs → LsA R H ws ys → LsA R H (vs ++ ws) (xs ++ ys)
  | [], _, [], _, _, g => g
  | _ :: _, _, _ :: _, _, h, g => ⟨h.1, LsA.append h.2 g⟩
  | [], _, _ :: _, _, h, _ => h.elim
  | _ :: _, _, [], _, h, _ => h.elim
theorem LsA.snoc {v : V} {x : α} {vs : List V} {xs : List α} (h : LsA R H vs xs) (hv : R H v x) : LsA R H (vs ++ [v]) (xs ++ [x]) := h.append ⟨hv, True.intro⟩
theorem LsA.length : ∀ {vs : List V} {xs : List α}, LsA R H vs xs → vs.length = xs.length
  | [], [], _ => rfl
  | _ :: _, _ :: _, h => congrArg (· + 1) (LsA.length h.2)
  | [], _ :: _, h => h.elim
  | _ :: _, [], h => h.elim
theorem LsA.get : ∀ {vs : List V} {xs : List α} {i : Nat} {v : V}, LsA R H vs xs → vs[i]? = some v → ∃ x, xs[i]? = some x ∧ R H v x
  | _ :: _, x :: _, 0, v, h, e => ⟨x, rfl, by cases e; exact h.1⟩
  | _ :: _, _ :: _, i + 1, v, h, e => LsA.get (i := i) h.2 e
  | [], _, _, _, _, e => by simp at e
  | _ :: _, [], _, _, h, _ => h.elim
theorem LsA.at_ {vs : List V} {xs : List α} {i : Nat} (h : LsA R H vs xs) (hi : i < vs.length) : ∃ v x, vs[i]? = some v ∧ xs[i]? = some x ∧ R H v x := by
  obtain ⟨x, h1, h2⟩ := LsA.get h (List.getElem?_eq_getElem hi)
  exact ⟨_, x, List.getElem?_eq_getElem hi, h1, h2⟩
end
/-- it evaluates to something with this word -/
def EvS (te : TE) (σ : L2.St) (H : Hp) (Pv : V → Hp → Prop) : Prop := ∀ H1, Ex H H1 → ∀ Q : VK, (∀ v H2, Ex H1 H2 → Pv v H2 → Q v H2) → te σ H1 Q
section
variable {σ : L2.St} {H : Hp} {te ta : TE} {Pv : V → Hp → Prop} {K : PySem.W.Frag} {D : Ends} {tz : TS}
theorem s_appS {l : Addr} {xs : List V} (hl : H l = some (.lst xs)) (ha : Ev ta σ H (.ref l)) (h : EvS te σ H Pv) (hz : xs.length < 100000) (k : ∀ v H1, Ex H H1 → Pv v H1 → D.nx σ (upd H1 l (.lst (xs ++ [v])))) :
    tDrop (tBM K "list" rAppend ta (tCons te tNil)) D σ H := ha H (Ex.refl H) _ fun H1 e1 =>
  ⟨Or.inl ⟨rfl, xs, sq_of (e1 l _ hl)⟩, h H1 e1 _ fun v H2 e2 hv => ⟨l, xs, v, rfl, rfl, e2 l _ (e1 l _ hl), sz_lt hz, k v H2 (e1.trans e2) hv⟩⟩
theorem q_asgS {i : Nat} (h : EvS te σ H Pv) (k : ∀ v H1, Ex H H1 → Pv v H1 → tz D (σ.set i (some v)) H1) : tSeq (tAsg te (gName i)) tz D σ H := h H (Ex.refl H) _ fun v H1 e1 hv => k v H1 e1 hv
theorem s_retS (h : EvS te σ H Pv) (k : ∀ v H1, Ex H H1 → Pv v H1 → D.rt v H1) : tRet te D σ H := h H (Ex.refl H) _ fun v H1 e1 hv => k v H1 e1 hv
/-- a slice of a new list -/
theorem el_slN {tl th : TO} {xs : List V} {lo hi : Option Int} (h : EvL te σ H xs) (h1 : EvO tl σ H lo) (h2 : EvO th σ H hi) : EvL (tSl (rSlL K) te tl th) σ H (cutV xs lo hi) := fun H1 e Q q =>
  h H1 e _ fun a H2 ha e2 h2' => h1 H2 (e.trans e2) _ fun H3 e3 => h2 H3 ((e.trans e2).trans e3) _ fun H4 e4 =>
    ⟨a, xs, rfl, sq_of ((e3.trans e4) _ _ h2'), fun p hp => q p _ (fresh_back ((e2.trans e3).trans e4) hp) (((e2.trans e3).trans e4).trans (Ex.new hp)) upd_same⟩
end
end FsK

set_option Elab.async false
set_option linter.all false
set_option maxRecDepth 100000
set_option maxHeartbeats 2000000
/-! o[i] and len(o) by an own class's __getitem__ and __len__; d.update(e); a statement that is never met. -/
namespace FsR
open PySem PySem.Spec PyProof.Rows L2
theorem run_atS {X : Cx} {CX : CXT} {k : Nat} {f : Addr} {fd : FuncData} {ps : List Str} {sp : Sp} {E : L2.St → XK} {pins : List (Addr × Obj)} {σ : L2.St} {H : Hp} {s : Shared} {Q : VK} {us : List Value} {vs : List V} {A : Around} (F : FnOk X.prog X.w X.K X.mg X.base CX k f fd ps sp) (hr : Room k A)
    (he : Env0 X.prog X.w X.K X.mg X.base A X.stack s H) (hb : Binds X.K fd ps []) (hx : PassesAt CX X σ (E σ))
    (I : Inv X pins σ H s) (r : Vals vs us) (h : sp vs H Q (E σ)) : wpAny (model X.prog X.w) A (call (.ref f) us) (EP X pins σ Q) X.xe s := by
  have hl : us.length = ps.length := by rw [← r.length]; exact F.len _ _ _ _ h
  have b := hb s us I.kIn (by rw [List.append_nil]; exact hl)
  rw [List.append_nil] at b
  refine wpAny_call (codeAny_mono (F.run A X.stack s H ⟨us, []⟩ us vs Q (E σ) hr he b r h) fun r s' hq => ?_)
  cases r with
  | error e => exact hx pins H s e s' I hq
  | ok fl =>
    cases fl with
    | ret u => exact I.after hq
    | next => exact False.elim hq
    | brk => exact False.elim hq
    | cont => exact False.elim hq
structure IxM (K : PySem.W.Frag) (C : Addr) (g : Addr) : Prop where
  at_ : PySem.W.findIn K (.ref C) "__getitem__" = some (some (.ref g))
  fn : PySem.W.isFn K (.ref g) = true
  fi : PySem.W.fnIn K g = true
/-- o[i] -/
def tIxO (C : Addr) (sp : Sp) (E : L2.St → XK) (ta tb : TE) : TE := fun σ H Q => ta σ H fun x H1 => tb σ H1 fun y H2 => ∃ (a dx : Addr) (fs : List (Str × V)), x = .ref a ∧ H2 a = some (.ins C dx fs) ∧ sp [.ref a, y] H2 Q (E σ)
theorem pe_ixO {X : Cx} {CX : CXT} {k : Nat} {C g : Addr} {fd : FuncData} {ps : List Str} {sp : Sp} {E : L2.St → XK} {ea eb : Expr} {pos : Pos} {ta tb : TE} (ha : PE X ea ta) (hb : PE X eb tb) (M : IxM X.K C g) (F : FnOk X.prog X.w X.K X.mg X.base CX k g fd ps sp) (hr : Room (k + 1) X.A) (hd : Binds X.K fd ps [])
    (hx : ∀ σ, PassesAt CX X σ (E σ)) (hsl : ∀ v i, subscripted eb true v i = runValue (.builtin "lifetime.subscript" ⟨[v, i], []⟩) := by intro _ _; with_unfolding_all rfl) : PE X (.Subscript ea eb pos) (tIxO C sp E ta tb) := by
  refine ⟨fun pins s σ H Q I h => ?_⟩
  refine Subscript_ (binT ha hb I h fun v u s2 x y H2 I2 rx ry q => ?_)
  obtain ⟨a, dx, fs, rfl, h1, q⟩ := q
  obtain rfl : v = Value.ref a := rx
  obtain ⟨_, O1, _, _, _, _⟩ := ins_get I2.hok h1
  obtain ⟨_, i1, _⟩ := O1.look
  obtain ⟨m, fr⟩ := I2.fr
  refine PySem.W.sub_K fr I2.ok.mod.kin i1 M.at_ M.fi M.fn ?_ (hsl _ _)
  exact run_atS (us := [.ref a, u]) (vs := [.ref a, y]) F hr.in1 I2.env0.in1 hd (hx σ) I2 (.cons rfl (.cons ry .nil)) q
structure LenM (K : PySem.W.Frag) (C : Addr) (g : Addr) : Prop where
  at_ : PySem.W.findIn K (.ref C) "__len__" = some (some (.ref g))
  fn : PySem.W.isFn K (.ref g) = true
/-- len(o) -/
def rLenO (C : Addr) (sp : Sp) (E : XK) : List V → Hp → VK → Prop := fun xs H Q => ∃ (a dx : Addr) (fs : List (Str × V)), xs = [.ref a] ∧ H a = some (.ins C dx fs) ∧ sp [.ref a] H (fun v H' => ∃ n : Nat, v = .int (n : Int) ∧ (n : Int) < 2 ^ 63 ∧ Q (.int (n : Int)) H') E
theorem call_lenO {X : Cx} {CX : CXT} {k : Nat} {C g : Addr} {fd : FuncData} {ps : List Str} {sp : Sp} {E : XK} (M : LenM X.K C g) (F : FnOk X.prog X.w X.K X.mg X.base CX k g fd ps sp) (hr : Room (k + 1) X.A) (hd : Binds X.K fd ps [])
    (hx : ∀ σ, PassesAt CX X σ E) : CallR X (.builtin "len") (rLenO C sp E) := by
  intro pins s σ H xs us Q I r h
  obtain ⟨a, dx, fs, rfl, h1, q⟩ := h
  obtain ⟨u, rfl, ru⟩ := vals1 r
  obtain rfl : u = Value.ref a := ru
  obtain ⟨_, O1, _, _, _, _⟩ := ins_get I.hok h1
  obtain ⟨_, i1, _⟩ := O1.look
  obtain ⟨m, fr⟩ := I.fr
  refine PySem.W.len_K fr I.ok.mod.kin i1 M.at_ M.fn (wpAny_mono (run_atS (E := fun _ => E) (us := [.ref a]) (vs := [.ref a]) F hr.in1 I.env0.in1 hd (hx σ) I (.cons rfl .nil) q) (fun w s' z => ?_) fun _ _ x => x)
  obtain ⟨v, H', J, rv, n, ev, hn, q'⟩ := z
  subst ev
  obtain ⟨t, rfl⟩ := rv
  exact ⟨⟨by omega, hn⟩, .int (n : Int), H', J.tok _, ⟨_, rfl⟩, q'⟩
/-- d.update(e) -/
def rUpd : V → List V → Hp → VK → Prop := fun x vs H Q => ∃ (d o : Addr) (kvs more : List (Key × V)), x = .ref d ∧ vs = [.ref o] ∧ d ≠ o ∧ H d = some (.dK kvs) ∧ H o = some (.dK more) ∧ kvs.length + more.length ≤ 100000 ∧ Q .non (upd H d (.dK (mergeK kvs more)))
theorem mt_update {X : Cx} : MtR X "dict.update" rUpd := by
  intro pins s σ H x xs v us Q I rx rv h
  obtain ⟨d, o, kvs, more, rfl, rfl, hne, hd, ho, hz, q⟩ := h
  obtain rfl : v = Value.ref d := rx
  obtain ⟨u, rfl, ru⟩ := vals1 rv
  obtain rfl : u = Value.ref o := ru
  obtain ⟨z1, y1, v1, r1, d1⟩ := dk_of I.hok hd
  obtain ⟨z2, y2, v2, r2, d2⟩ := dk_of I.hok ho
  have hl : v1.length + v2.length ≤ sizeLine := by
    rw [← r1.length, ← r2.length, sizeLine_eq]
    omega
  refine call_meetsIn PySem.F.slot_dict_update d1.typeIs PySem.F.entry_dict_update (PySem.F.args_dict_update_2 _ _) (meets_dict_update (mixKind X.prog X.w) d o hne y2)
    ⟨v1, v2, d1, d2, hl, fun h' dd' _ hs => ?_⟩
  have he : ∃ q, h'.get? d = some q := let ⟨q, _, _, hq, _⟩ := dd'; ⟨q, hq⟩
  refine ⟨.non, _, d_write I (by rw [hd]; exact True.intro) hs he (dk_new ?_ y1 (r2.merge r1) dd'), rfl, q⟩
  have := length_mergeK more kvs
  rw [sizeLine_eq]
  omega
end FsR

set_option Elab.async false
set_option linter.all false
set_option maxRecDepth 100000
set_option maxHeartbeats 2000000
/-! name = {k: v for ..} on one line. -/
namespace L2
open PySem PySem.Spec PyProof.Rows
theorem ps_setDc {X : Cx} {i : Nat} {y : Str} {py : Pos} {kx vx tg iter : Expr} {ifs : List Expr} {scope : Scope} {own : List (Str × Nat)} {pos spos : Pos} {wi : TI} {g : TG} {tt : TT} {tk tv : TE} (hc : X.calm = true) (hN : X.N.Nodup) (hy : X.N[i]? = some y) (hyl : X.env.scope.names.lookup y = some .local)
    (hsw : swapsWith (.DictComp kx vx [⟨tg, iter, ifs, 0⟩] scope pos) (some (.Name y py)) spos.line X.env = pure true) (hi : PI X tg iter wi) (ok : BlkOk X.N X.env.scope scope own)
    (hg : ∀ (s : Shared) (H : Hp) (C : Addr) (cl : List (Str × Addr)) (fp : List Addr), PG (X.blk s H scope (compEnvC scope cl C X.env) fp) tg g) (ht : ∀ (s : Shared) (H : Hp) (C : Addr) (cl : List (Str × Addr)) (fp : List Addr), PTs (X.blk s H scope (compEnvC scope cl C X.env) fp) ifs tt)
    (hk : ∀ (s : Shared) (H : Hp) (C : Addr) (cl : List (Str × Addr)) (fp : List Addr), PE (X.blk s H scope (compEnvC scope cl C X.env) fp) kx tk)
    (he : ∀ (s : Shared) (H : Hp) (C : Addr) (cl : List (Str × Addr)) (fp : List Addr), PE (X.blk s H scope (compEnvC scope cl C X.env) fp) vx tv) (hs : ∀ x, foldedSetIterable iter X.env x = pure x := by intro _; rfl) :
    PS X (.Assign [.Name y py] (.DictComp kx vx [⟨tg, iter, ifs, 0⟩] scope pos) spos) (tAsg (tDc wi g tt tk tv (own.map (·.2))) (gName i)) := by
  refine ⟨fun pins s σ H D I h => ?_⟩
  rw [exec_Assign_Name_used _ _ _ _ hsw]
  refine wpAny_bind (wpAny_standAt (wpAny_bind ?_))
  show wpAny _ X.A (do let _ ← comprehension (.DictComp kx vx [⟨tg, iter, ifs, 0⟩] scope pos) scope X.env (firstIterPos [⟨tg, iter, ifs, 0⟩] pos) newDict false (eval iter X.env) (some (assign (.Name y py) X.env))) _ _ s
  have h : tDc wi g tt tk tv (own.map (·.2)) σ H (fun x H1 => gName i x σ H1 D.nx) := h
  refine wpAny_bind (thn (dc_core (Qf := fun _ s' => SP X pins D .next s') hc hN I hi ok hg ht hk he hs h fun L C s' m H' I' q hn f => ?_) fun _ s' hq => wpAny_pure (wpAny_pure hq))
  show wpAny _ _ (assign (.Name y py) X.env (.ref L)) _ _ _
  refine wpAny_assign_Name (store_ok2 (v := V.ref L) I' hN hy (.inl hyl) rfl (fun s2 I2 ⟨a, sb, ha⟩ => ?_) (.inr hyl))
  obtain ⟨f0, f1, f2, f3, f4, f5⟩ := f
  have haC : C ≠ a := by
    rcases ha with z | z
    · rw [z]; exact f1
    · exact fun e => f4 y a z e.symm
  refine ⟨m, hn.sameBut sb haC, fun h3 sb3 => ?_⟩
  exact ⟨_, H', I2.turned (t' := s2.toks) (fun b o hb e => (sb3.2 b hb).trans e) f0 f1 f3 f4 f5, q⟩
theorem sw_trueD {kx vx : Expr} {gs : List Comprehension} {scope : Scope} {pos py : Pos} {y : Str} {l : Nat} {env : Env} (hk : env.scope.kind = .function) (hy : env.scope.names.lookup y = some .local) (hl : (py.line == pos.line) = true)
    (ha : (scope.names.any fun (n, k) => n == y && (k == .local || k == .cell)) = false) : swapsWith (.DictComp kx vx gs scope pos) (some (.Name y py)) l env = pure true := by
  have ky : env.kindOf y = some .local := hy
  have hb : env.blockKind = .function := by unfold Env.blockKind; rw [hk]; rfl
  unfold swapsWith
  simp only [hb, ky, ha, Expr.pos, hl]
  rfl
end L2

set_option Elab.async false
set_option linter.all false
set_option maxRecDepth 100000
set_option maxHeartbeats 2000000
/-! xs != [], xs == []. -/
namespace FsR
open PySem PySem.Spec PyProof.Rows L2 Evl
def rNeNil (K : PySem.W.Frag) : R2 := fun x y H Q => ∃ (a b : Addr) (xs : List V), x = .ref a ∧ y = .ref b ∧ SqL K H a xs ∧ SqL K H b [] ∧ Q (.bl (!xs.isEmpty)) H
theorem op_neNil {X : Cx} (hu : X.A.units < cLine) : OpR X (compareOp .NotEq) (rNeNil X.K) := by
  intro pins s σ H x y v u Q I rx ry h
  obtain ⟨a, b, xs, rfl, rfl, ha, hb, q⟩ := h
  obtain rfl : v = Value.ref a := rx
  obtain rfl : u = Value.ref b := ry
  obtain ⟨us, r1, p1, _⟩ := I.list ha
  obtain ⟨ws, r2, p2, _⟩ := I.list hb
  have hws : ws = [] := by
    cases r2
    rfl
  subst hws
  cases r1 with
  | nil =>
    refine SeqAt.RcNeAt.lists (e := fun _ => true) p1.isList p2.isList rfl hu (fun j h1 _ => by simp at h1) X.prog X.w X.xe _ ?_
    exact ⟨.bl false, H, I, rfl, q⟩
  | cons r rs =>
    refine SeqAt.RcNeAt.lists_lengths p1.isList p2.isList (by simp) hu X.prog X.w X.xe _ ?_
    exact ⟨.bl true, H, I, rfl, q⟩
def rEqNil (K : PySem.W.Frag) : R2 := fun x y H Q => ∃ (a b : Addr) (xs : List V), x = .ref a ∧ y = .ref b ∧ SqL K H a xs ∧ SqL K H b [] ∧ Q (.bl xs.isEmpty) H
theorem op_eqNil {X : Cx} (hu : X.A.units < cLine) : OpR X (compareOp .Eq) (rEqNil X.K) := by
  intro pins s σ H x y v u Q I rx ry h
  obtain ⟨a, b, xs, rfl, rfl, ha, hb, q⟩ := h
  obtain rfl : v = Value.ref a := rx
  obtain rfl : u = Value.ref b := ry
  obtain ⟨us, r1, p1, _⟩ := I.list ha
  obtain ⟨ws, r2, p2, _⟩ := I.list hb
  have hws : ws = [] := by
    cases r2
    rfl
  subst hws
  cases r1 with
  | nil =>
    refine SeqAt.RcAt.lists (e := fun _ => true) p1.isList p2.isList rfl hu (fun j h1 _ => by simp at h1) X.prog X.w X.xe _ ?_
    exact ⟨.bl true, H, I, rfl, q⟩
  | cons r rs =>
    refine SeqAt.RcAt.lists_lengths p1.isList p2.isList (by simp) hu X.prog X.w X.xe _ ?_
    exact ⟨.bl false, H, I, rfl, q⟩
theorem rv_neNil {K : PySem.W.Frag} {H : Hp} {a b : Addr} {xs : List V} (ha : SqL K H a xs) (hb : SqL K H b []) : RV (rNeNil K) (.ref a) (.ref b) H (.bl (!xs.isEmpty)) := fun H1 e _ q => ⟨a, b, xs, rfl, rfl, ex_l e ha, ex_l e hb, q H1 (Ex.refl H1)⟩
theorem rv_eqNil {K : PySem.W.Frag} {H : Hp} {a b : Addr} {xs : List V} (ha : SqL K H a xs) (hb : SqL K H b []) : RV (rEqNil K) (.ref a) (.ref b) H (.bl xs.isEmpty) := fun H1 e _ q => ⟨a, b, xs, rfl, rfl, ex_l e ha, ex_l e hb, q H1 (Ex.refl H1)⟩
end FsR
namespace FsR
open PySem PySem.Spec PyProof.Rows L2 Evl
/-- xs != ys, the same objects in both -/
def rNeSame (K : PySem.W.Frag) : R2 := fun x y H Q => ∃ (a b : Addr) (xs : List V), x = .ref a ∧ y = .ref b ∧ SqL K H a xs ∧ SqL K H b xs ∧ (∀ v ∈ xs, ∃ c, v = V.ref c) ∧ Q (.bl false) H
theorem vals_refs : ∀ {xs : List V} {us ws : List Value}, (∀ v ∈ xs, ∃ c, v = V.ref c) → Vals xs us → Vals xs ws → us = ws
  | _, _, _, _, .nil, .nil => rfl
  | x :: xs, _ :: _, _ :: _, h, .cons r rs, .cons t ts => by
    obtain ⟨c, rfl⟩ := h x List.mem_cons_self
    cases r
    cases t
    rw [vals_refs (fun v hv => h v (List.mem_cons_of_mem _ hv)) rs ts]
theorem op_neSame {X : Cx} (hu : X.A.units < cLine) : OpR X (compareOp .NotEq) (rNeSame X.K) := by
  intro pins s σ H x y v u Q I rx ry h
  obtain ⟨a, b, xs, rfl, rfl, ha, hb, hx, q⟩ := h
  obtain rfl : v = Value.ref a := rx
  obtain rfl : u = Value.ref b := ry
  obtain ⟨us, r1, p1, _⟩ := I.list ha
  obtain ⟨ws, r2, p2, _⟩ := I.list hb
  have e := vals_refs hx r1 r2
  subst e
  refine SeqAt.RcNeAt.lists (e := fun _ => true) p1.isList p2.isList rfl hu (fun j h1 _ => SeqAt.EqAt.same _) X.prog X.w X.xe _ ?_
  refine ⟨.bl false, H, I, ?_, q⟩
  show Value.bool _ = Value.bool false
  simp
theorem rv_neSame {K : PySem.W.Frag} {H : Hp} {a b : Addr} {xs : List V} (ha : SqL K H a xs) (hb : SqL K H b xs) (hx : ∀ v ∈ xs, ∃ c, v = V.ref c) : RV (rNeSame K) (.ref a) (.ref b) H (.bl false) := fun H1 e _ q => ⟨a, b, xs, rfl, rfl, ex_l e ha, ex_l e hb, hx, q H1 (Ex.refl H1)⟩
end FsR

set_option Elab.async false
set_option linter.all false
set_option maxRecDepth 100000
set_option maxHeartbeats 2000000
namespace Fs
open PySem L2 Evl FsE FsC
def topS (i : Nat) : Stmt := PySem.Challenge.pw_fullseats_k71_rings_of_logs.main.body.getD i (.Pass ⟨0, 0, 0, 0⟩)
structure LawT (K : PySem.W.Frag) (mg : Str → Option Value) : Prop where
  len : mg "len" = none
  int : mg "int" = none
  abs : mg "abs" = none
  range : mg "range" = none
section
variable {P : Program} {w : World} {K : PySem.W.Frag} {mg : Str → Option Value} {base : Heap}
theorem rc_int {K : PySem.W.Frag} {i : Int} {H : Hp} : RC (fun xs H Q => (∃ i, xs = [V.int i] ∧ Q (.int i) H) ∨ ∃ k, xs = [V.bl k] ∧ Q (.int (if k then 1 else 0)) H) [.int i] H (.int i) := fun H1 _ Q q => .inl ⟨i, rfl, q H1 (Ex.refl H1)⟩
/-- _law_cell_at(script, k): some int -/
def spCellAt (K : PySem.W.Frag) : Sp := fun vs H Q _ => ∃ (a : Addr) (ns : List Int) (k : Nat), vs = [.ref a, .int (k : Int)] ∧ SqL K H a (ns.map V.int) ∧ ∀ i : Int, RetV (.int i) H Q
theorem scCellAt : FnScope ["_law_script", "_law_k"] ["_law_script", "_law_k"] (defScope (topS 21)) := ⟨rfl, rfl, rfl, by decide +kernel, rfl, by decide +kernel, by decide +kernel⟩
theorem ok_cell_at {f : Addr} {fd : FuncData} (F : Fun K "_law_cell_at" "_law_cell_at" (topS 21) f fd) (T : LawT K mg) : FnOk P w K mg base CX0 1 f fd ["_law_script", "_law_k"] (spCellAt K) := by
  refine F.ok scCellAt (fun vs H Q E h => ?_) (fun cdv A outer s H vs Q E hr h => ?_)
  · obtain ⟨a, ns, k, rfl, _⟩ := h
    rfl
  · obtain ⟨a, ns, k, rfl, hS, q⟩ := h
    refine ⟨_, pss_cons (ps_if (pt_cmpR op_lt (pv 1) (pe_callB call_len_seq (by rfl) T.len PySem.boot_len (pa_cons (pv 0) pa_nil)) (nomark _)) (pss_one (ps_ret (pe_ix ix_list (pv 0) (pv 1) (fun _ _ => rfl)))) pss_nil) (pss_one (ps_ret pe_int)), ?_⟩
    refine q_when (b := decide ((k : Int) < ((ns.map V.int).length : Nat))) (et_test (ev_op (ev_var rfl) (ev_cb (ea_cons (ev_var rfl) ea_nil) (fun H2 e2 Q' q' => ⟨a, _, rfl, .inl (ex_l e2 hS), q' H2 (Ex.refl H2)⟩)) rv_I0)) (fun hb H1 e1 => ?_) (fun hb H1 e1 => ?_)
    · have hk : k < ns.length := by
        have : (k : Int) < ((ns.map V.int).length : Nat) := by simpa using hb
        rw [List.length_map] at this
        omega
      refine s_ret (v := .int ns[k]) (ev_op (ev_var rfl) (ev_var rfl) (rv_ixL (ex_l e1 hS) (atI_nat (by rw [List.getElem?_map, List.getElem?_eq_getElem hk]; rfl)))) (fun H2 e2 => q _ H2 (e1.trans e2))
    · exact s_ret ev_c (fun H2 e2 => q _ H2 (e1.trans e2))
/-- _law_mixed(cell, k): some int -/
def spMixed : Sp := fun vs H Q _ => ∃ (c : Int) (k : Nat), vs = [.int c, .int (k : Int)] ∧ k ≤ 1000 ∧ ∀ i : Int, RetV (.int i) H Q
theorem scMixed : FnScope ["_law_cell", "_law_k", "_law_spread"] ["_law_cell", "_law_k"] (defScope (topS 22)) := ⟨rfl, rfl, rfl, by decide +kernel, rfl, by decide +kernel, by decide +kernel⟩
theorem ok_mixed {f : Addr} {fd : FuncData} (F : Fun K "_law_mixed" "_law_mixed" (topS 22) f fd) (T : LawT K mg) : FnOk P w K mg base CX0 1 f fd ["_law_cell", "_law_k"] spMixed := by
  refine F.ok scMixed (fun vs H Q E h => ?_) (fun cdv A outer s H vs Q E hr h => ?_)
  · obtain ⟨c, k, rfl, _⟩ := h
    rfl
  · obtain ⟨c, k, rfl, hk, q⟩ := h
    refine ⟨_, pss_cons (ps_set (i := 2) scMixed.nd rfl (Or.inl rfl) (pe_op op_mod (pe_callTy call_int1 (by rfl) T.int (by decide +kernel) (pa_cons (pe_op op_pow (pe_op op_add (pe_op op_add (pe_op op_mod (pe_callTy call_int1 (by rfl) T.int (by decide +kernel) (pa_cons (pv 0) pa_nil)) pe_int) (pe_op op_mul pe_int (pv 1))) pe_int) pe_int) pa_nil)) pe_int))
      (pss_one (ps_ret (pe_op op_mod (pe_callTy call_int1 (by rfl) T.int (by decide +kernel) (pa_cons (pe_op op_mul (pe_op op_add (pv 2) (pv 1)) pe_int) pa_nil)) pe_int))), ?_⟩
    have h1 := Int.emod_nonneg c (b := 2147483647) (by decide)
    have h2 := Int.emod_lt_of_pos c (b := 2147483647) (by decide)
    refine ⟨.int c, rfl, .inl ⟨c, rfl, c, 2147483647, rfl, rfl, (by decide : (0 : Int) < 2147483647), ?_⟩⟩
    refine ⟨.int (k : Int), rfl, 7919, (k : Int), rfl, rfl, .inl ⟨by decide, by decide⟩, ?_⟩
    refine ⟨c % 2147483647, 7919 * (k : Int), rfl, rfl, c % 2147483647 + 7919 * (k : Int), 104729, rfl, rfl, ?_⟩
    refine ⟨c % 2147483647 + 7919 * (k : Int) + 104729, 5, rfl, rfl, ⟨by decide, by decide, by omega⟩, ?_⟩
    refine .inl ⟨_, rfl, _, 2147483647, rfl, rfl, (by decide : (0 : Int) < 2147483647), ?_⟩
    refine ⟨_, rfl, .int (k : Int), rfl, _, (k : Int), rfl, rfl, _, 40692, rfl, rfl, .inr ⟨by decide, by decide⟩, ?_⟩
    refine .inl ⟨_, rfl, _, 2147483629, rfl, rfl, (by decide : (0 : Int) < 2147483629), ?_⟩
    exact q _ H (Ex.refl H)
theorem if_Tz {c : Prop} [Decidable c] {A B : Prop} (h : c) (a : A) : if c then A else B := by rw [if_pos h]; exact a
theorem if_Fz {c : Prop} [Decidable c] {A B : Prop} (h : ¬ c) (b : B) : if c then A else B := by rw [if_neg h]; exact b
/-- _law_row(cell, many): so many ints from 0 to 999 -/
def RowOk (row : List Int) : Prop := ∀ v ∈ row, 0 ≤ v ∧ v < 1000
def spRow : Sp := fun vs H Q _ => ∃ (c : Int) (n : Nat), vs = [.int c, .int (n : Int)] ∧ n ≤ 500 ∧ ∀ row : List Int, row.length = n → RowOk row → RetL (row.map V.int) H Q
theorem scRow : FnScope ["_law_cell", "_law_many", "_law_rest", "_law_row_here", "_law_k"] ["_law_cell", "_law_many"] (defScope (topS 23)) := ⟨rfl, rfl, rfl, by decide +kernel, rfl, by decide +kernel, by decide +kernel⟩
theorem rowOk_add {row : List Int} {v : Int} (h : RowOk row) (h0 : 0 ≤ v) (h1 : v < 1000) : RowOk (row ++ [v]) := fun x hx => by
  rcases List.mem_append.mp hx with hx | hx
  · exact h x hx
  · rw [List.mem_singleton.mp hx]
    exact ⟨h0, h1⟩
theorem ok_row {f : Addr} {fd : FuncData} (F : Fun K "_law_row" "_law_row" (topS 23) f fd) (T : LawT K mg) (GM : CalX P w K mg base CX0 1 "_law_mixed" spMixed) : FnOk P w K mg base CX0 2 f fd ["_law_cell", "_law_many"] spRow := by
  refine F.ok scRow (fun vs H Q E h => ?_) (fun cdv A outer s H vs Q E hr h => ?_)
  · obtain ⟨c, n, rfl, _⟩ := h
    rfl
  · obtain ⟨c, n, rfl, hn, q⟩ := h
    refine ⟨_, pss_cons (ps_set (i := 2) scRow.nd rfl (Or.inl rfl) (pe_ifExp (pt_cmpR op_ge (pe_callB call_abs (by rfl) T.abs (by decide +kernel) (pa_cons (pv 0) pa_nil)) (pe_op op_pow pe_int pe_int) (nomark _)) (pe_callB call_abs (by rfl) T.abs (by decide +kernel) (pa_cons (pv 0) pa_nil)) pe_int))
      (pss_cons (ps_set (i := 3) scRow.nd rfl (Or.inl rfl) (pe_lst pa_nil))
      (pss_cons (ps_for PassesOwn.never rfl (pi_range1 rfl T.range (pa_cons (pv 1) pa_nil)) (pg_name (i := 4) scRow.nd rfl (Or.inl rfl))
        (pss_cons (ps_expr (pe_bm PySem.F.plainAttrs_list PySem.F.slot_list_append PySem.F.type_list_append mt_append (pv 3) (pa_cons (pe_op op_mod (pe_callTy call_int1 (by rfl) T.int (by decide +kernel) (pa_cons (pe_ifExp (pt_cmpR op_gt (pv 2) pe_int (nomark _)) (pv 2) (pe_cx (E := fun _ => E0) GM hr (by decide) (by rfl) at0 (pa_cons (pv 0) (pa_cons (pv 4) pa_nil)))) pa_nil)) pe_int) pa_nil)))
          (pss_one (ps_set (i := 2) scRow.nd rfl (Or.inl rfl) (pe_op op_fdiv (pv 2) pe_int)))))
      (pss_one (ps_ret (pv 3))))), ?_⟩
    have ha : ∀ {H1 : Hp}, Ev (tCB (fun xs H Q => ∃ i : Int, xs = [V.int i] ∧ Q (.int (if i < 0 then -i else i)) H) (tCons (tVar 0) tNil)) [some (.int c), some (.int (n : Int)), none, none, none] H1 (.int (if c < 0 then -c else c)) := fun {H1} => ev_cb (ea_cons (ev_var rfl) ea_nil) (fun H4 _ Q' q' => ⟨c, rfl, q' H4 (Ex.refl H4)⟩)
    obtain ⟨r, hr⟩ : ∃ r : Int, r = if decide ((10 : Int) ^ (18 : Int).toNat ≤ if c < 0 then -c else c) = true then (if c < 0 then -c else c) else 0 := ⟨_, rfl⟩
    refine q_asg (v := .int r) (ev_if (b := decide ((10 : Int) ^ (18 : Int).toNat ≤ if c < 0 then -c else c)) (et_test (ev_op ha (ev_op ev_c ev_c (rv_I ⟨by decide, by decide, by decide⟩)) rv_I0)) (fun hb => ?_) (fun hb => ?_)) (fun H1 e1 => ?_)
    · rw [hr, if_pos hb]
      exact ha
    · rw [hr, if_neg (by rw [hb]; exact Bool.false_ne_true)]
      exact ev_c
    clear hr ha
    refine q_asgL (xs := []) (el_lst ea_nil (by decide)) (fun l H2 hl e2 h2 => ?_)
    have hlH : H l = none := fresh_back e1 hl
    refine q_forR1 (n := (n : Int)) (ea_cons (ev_var rfl) ea_nil) (by omega) (fun i σ' H' => ∃ (row : List Int) (rest : Int) (v4 : Option V), σ' = [some (.int c), some (.int (n : Int)), some (.int rest), some (.ref l), v4] ∧ H' l = some (.lst (row.map V.int)) ∧ row.length = i ∧ RowOk row ∧ Ex H H')
        (fun H4 e4 => ⟨[], r, none, rfl, e4 _ _ h2, rfl, (fun v hv => nomatch hv), (e1.trans e2).trans e4⟩) (fun i σ' H' hi ⟨row, rest, v4, hσ, hl', hlen, hrow, he⟩ => ?_) (fun σ' H' ⟨row, rest, v4, hσ, hl', hlen, hrow, he⟩ => ?_)
    · subst hσ
      have hsz : (row.map V.int).length < 100000 := by rw [List.length_map]; omega
      have app : ∀ v : Int, row.map V.int ++ [V.int v] = (row ++ [v]).map V.int := fun v => by rw [List.map_append]; rfl
      have go : ∀ (v : Int) (H5 : Hp), Ex H' H5 → 0 ≤ v → v < 1000 → ∃ (row' : List Int) (rest' : Int) (v4' : Option V), ([some (V.int c), some (.int (n : Int)), some (.int (rest / 1000)), some (.ref l), some (.int (i : Int))] : L2.St) = [some (.int c), some (.int (n : Int)), some (.int rest'), some (.ref l), v4'] ∧ upd H5 l (.lst (row.map V.int ++ [V.int v])) l = some (.lst (row'.map V.int)) ∧ row'.length = i + 1 ∧ RowOk row' ∧ Ex H (upd H5 l (.lst (row.map V.int ++ [V.int v]))) := fun v H5 e5 v0 v1 => ⟨row ++ [v], _, _, rfl, by rw [← app]; exact upd_same, (by rw [List.length_append, hlen]; rfl), rowOk_add hrow v0 v1, Ex.mut (he.trans e5) hlH⟩
      refine ⟨_, rfl, .inl ⟨rfl, _, sq_of hl'⟩, ?_⟩
      cases hb : decide (0 < rest) with
      | true =>
        have h0 : 0 < rest := of_decide_eq_true hb
        refine ⟨_, rfl, _, _, rfl, rfl, _, rfl, ?_⟩
        rw [hb]
        refine if_Tz (c := true = true) rfl ?_
        refine ⟨_, rfl, .inl ⟨rest, rfl, rest, 1000, rfl, rfl, (by decide : (0 : Int) < 1000), l, row.map V.int, .int (rest % 1000), rfl, rfl, hl', sz_lt hsz, ?_⟩⟩
        refine s_asg (v := .int (rest / 1000)) (ev_op (x := .int rest) (ev_var rfl) ev_c (rv_I ⟨by decide, by decide⟩)) (fun H6 e6 => ?_)
        obtain ⟨row', rest', v4', h1, h2', h3, h4, h5⟩ := go (rest % 1000) H' (Ex.refl H') (Int.emod_nonneg _ (by decide)) (Int.emod_lt_of_pos _ (by decide))
        exact ⟨row', rest', v4', h1, e6 _ _ h2', h3, h4, h5.trans e6⟩
      | false =>
        refine ⟨_, rfl, _, _, rfl, rfl, _, rfl, ?_⟩
        rw [hb]
        refine if_Fz (c := false = true) (by decide) ?_
        refine ⟨_, rfl, _, rfl, c, i, rfl, by omega, fun m H5 e5 => .inl ⟨m, rfl, m, 1000, rfl, rfl, (by decide : (0 : Int) < 1000), l, row.map V.int, .int (m % 1000), rfl, rfl, e5 _ _ hl', sz_lt hsz, ?_⟩⟩
        refine s_asg (v := .int (rest / 1000)) (ev_op (x := .int rest) (ev_var rfl) ev_c (rv_I ⟨by decide, by decide⟩)) (fun H6 e6 => ?_)
        obtain ⟨row', rest', v4', h1, h2', h3, h4, h5⟩ := go (m % 1000) H5 e5 (Int.emod_nonneg _ (by decide)) (Int.emod_lt_of_pos _ (by decide))
        exact ⟨row', rest', v4', h1, e6 _ _ h2', h3, h4, h5.trans e6⟩
    · subst hσ
      have hn' : row.length = n := by simpa using hlen
      exact s_ret (ev_var rfl) (fun H4 e4 => q row hn' hrow l H4 hlH (he.trans e4) (e4 _ _ hl'))
end
end Fs

set_option Elab.async false
set_option linter.all false
set_option maxRecDepth 100000
set_option maxHeartbeats 4000000
namespace Fs
open PySem L2 Evl FsE FsC FsR FsK
/-! meetings in the heap: the machines of their parts -/
def PtAt (H : Hp) (v : V) (m : Int) : Prop := ∃ (q : Addr) (x y z : V), v = .ref q ∧ H q = some (.tup [.int m, x, y, z])
def MtAt (H : Hp) (v : V) (ms : List Int) : Prop := ∃ (a p : Addr) (c : V) (ps : List V), v = .ref a ∧ H a = some (.tup [c, .ref p]) ∧ H p = some (.tup ps) ∧ LsA PtAt H ps ms
theorem PtAt.keep {H H' : Hp} (e : ExN H H') {v : V} {m : Int} (h : PtAt H v m) : PtAt H' v m := by
  obtain ⟨q, x, y, z, h1, h2⟩ := h
  exact ⟨q, x, y, z, h1, e.tup _ _ h2⟩
theorem MtAt.keep {H H' : Hp} (e : ExN H H') {v : V} {ms : List Int} (h : MtAt H v ms) : MtAt H' v ms := by
  obtain ⟨a, p, c, ps, h1, h2, h3, h4⟩ := h
  exact ⟨a, p, c, ps, h1, e.tup _ _ h2, e.tup _ _ h3, h4.imp fun _ _ k => k.keep e⟩
theorem MtAt.ex {H H' : Hp} (e : Ex H H') {v : V} {ms : List Int} (h : MtAt H v ms) : MtAt H' v ms := h.keep (ExN.of e)
abbrev RwAt (H : Hp) (vs : List V) (mss : List (List Int)) : Prop := LsA MtAt H vs mss
theorem RwAt.keep {H H' : Hp} (e : ExN H H') {vs : List V} {mss : List (List Int)} (h : RwAt H vs mss) : RwAt H' vs mss := LsA.imp (fun _ _ k => MtAt.keep e k) h
theorem RwAt.ex {H H' : Hp} (e : Ex H H') {vs : List V} {mss : List (List Int)} (h : RwAt H vs mss) : RwAt H' vs mss := RwAt.keep (ExN.of e) h
def MsOk (mss : List (List Int)) : Prop := mss.length ≤ 10 ∧ ∀ ms ∈ mss, ms.length ≤ 20
section
variable {σ : L2.St} {H : Hp} {te : TE} {K : PySem.W.Frag}
/-- [e for a, b, c, d in (a tuple)] -/
theorem el_lcT4 {a : Addr} {xs ys : List V} {tl : TE} {i1 i2 i3 i4 : Nat} {vs : List Nat} (h : Ev tl σ H (.ref a)) (hx : SqT K H a xs) (hz : xs.length ≤ 40000) (hw : ∀ x1 x2 x3 x4, wipe (((((wipe σ vs).set i1 (some x1)).set i2 (some x2)).set i3 (some x3)).set i4 (some x4)) vs = wipe σ vs) (hl : ys.length = xs.length)
    (he : ∀ (i : Nat) (x y : V) H1, Ex H H1 → xs[i]? = some x → ys[i]? = some y → ∃ (q : Addr) (x1 x2 x3 x4 : V), x = .ref q ∧ H1 q = some (.tup [x1, x2, x3, x4]) ∧ Ev te (((((wipe σ vs).set i1 (some x1)).set i2 (some x2)).set i3 (some x3)).set i4 (some x4)) H1 y) :
    EvL (tLc (iTup K tl) (gTup K 4 (gCons (gName i1) (gCons (gName i2) (gCons (gName i3) (gCons (gName i4) gNil))))) tYes te vs) σ H ys := fun H0 e Q q => h H0 e _ fun H1 e1 => ⟨a, rfl, ⟨xs, ex_t (e.trans e1) hx⟩, fun Dl hD =>
  lc_tup (xs := xs) (Cw H1 (fun _ => true) (fun i => ys.getD i .non) Dl) ⟨hD, Ex.new hD, upd_same⟩ (fun i H' _ p => ex_t ((e.trans e1).trans p.2.1) hx) (fun i x H' hi p => by
    have hi1 := (List.getElem?_eq_some_iff.mp hi).1
    have hy : ys[i]? = some (ys.getD i .non) := by rw [List.getD_eq_getElem?_getD, List.getElem?_eq_getElem (by omega)]; rfl
    obtain ⟨r, x1, x2, x3, x4, rfl, hr, ht⟩ := he i x _ H1 (e.trans e1) hi hy
    exact ⟨r, _, rfl, st_of (p.2.1 _ _ hr), rfl, _, _, rfl, _, _, rfl, _, _, rfl, _, _, rfl, rfl, hw x1 x2 x3 x4, cw_turn (f := fun _ => true) (v := fun i => ys.getD i .non) p (by omega) et_nil (fun _ => ht)⟩)
    (fun H' p => by
      have e3 : given xs.length (fun _ => true) (fun i => ys.getD i .non) = ys := by rw [given_all, range_ys hl]
      have h3 : H' Dl = some (.lst (given xs.length (fun _ => true) (fun i => ys.getD i .non))) := p.2.2
      rw [e3] at h3
      exact q Dl H' (fresh_back e1 p.1) (e1.trans p.2.1) h3)⟩
theorem q_unpT2 {ta : TE} {a : Addr} {x1 x2 : V} {i1 i2 : Nat} {tz : TS} {D : Ends} (h : Ev ta σ H (.ref a)) (hx : H a = some (.tup [x1, x2])) (σ' : L2.St)
    (hσ : (σ.set i1 (some x1)).set i2 (some x2) = σ') (k : ∀ H1, Ex H H1 → tz D σ' H1) : tSeq (tAsg ta (gTup K 2 (gCons (gName i1) (gCons (gName i2) gNil)))) tz D σ H := by
  subst hσ
  exact h H (Ex.refl H) _ fun H1 e1 => ⟨a, _, rfl, st_of (e1 _ _ hx), rfl, _, _, rfl, _, _, rfl, rfl, k H1 e1⟩
end
section
variable {P : Program} {w : World} {K : PySem.W.Frag} {mg : Str → Option Value} {base : Heap}
/-- machines_in(meeting) -/
def spMach : Sp := fun vs H Q _ => ∃ (v : V) (ms : List Int), vs = [v] ∧ MtAt H v ms ∧ ms.length ≤ 20 ∧ RetL (ms.map V.int) H Q
abbrev nsMach : List Str := ["meeting", "channel", "parts", "machine", "turn", "place", "value"]
theorem scMach : FnScope nsMach ["meeting"] (defScope (topS 9)) := ⟨rfl, rfl, rfl, by decide +kernel, rfl, by decide +kernel, by decide +kernel⟩
theorem LsA.pt {H : Hp} : ∀ {vs : List V} {ms : List Int} {i : Nat} {v y : V}, LsA PtAt H vs ms → vs[i]? = some v → (ms.map V.int)[i]? = some y → ∃ (q : Addr) (m : Int) (x z u : V), v = .ref q ∧ y = .int m ∧ H q = some (.tup [.int m, x, z, u])
  | v :: vs, m :: ms, 0, w, y, h, e, e2 => by
    cases e
    cases e2
    obtain ⟨q, x, z, u, h1, h2⟩ := h.1
    exact ⟨q, m, x, z, u, h1, rfl, h2⟩
  | _ :: _, _ :: _, i + 1, _, _, h, e, e2 => LsA.pt (i := i) h.2 e e2
  | [], _, _, _, _, _, e, _ => by simp at e
  | _ :: _, [], _, _, _, h, _, _ => h.elim
theorem ok_mach {f : Addr} {fd : FuncData} (F : Fun K "machines_in" "machines_in" (topS 9) f fd) : FnOk P w K mg base CX0 1 f fd ["meeting"] spMach := by
  refine F.ok scMach (fun vs H Q E h => ?_) (fun cdv A outer s H vs Q E hr h => ?_)
  · obtain ⟨v, ms, rfl, _⟩ := h
    rfl
  · obtain ⟨v, ms, rfl, hm, hz, q⟩ := h
    obtain ⟨a, p, c, ps, rfl, h1, h2, h3⟩ := hm
    refine ⟨_, pss_cons (ps_asg (pv 0) (pg_tup rfl (pgs_cons (pg_name (i := 1) scMach.nd rfl (.inl rfl)) (pgs_cons (pg_name (i := 2) scMach.nd rfl (.inl rfl)) pgs_nil))))
      (pss_one (ps_ret (pe_lc (own := [("machine", 3), ("turn", 4), ("place", 5), ("value", 6)]) (g := gTup K 4 (gCons (gName 3) (gCons (gName 4) (gCons (gName 5) (gCons (gName 6) gNil))))) (tt := tYes) (te := tVar 3) rfl scMach.nd (pi_tup (pv 2)) (blkOk_by (own := [("machine", 3), ("turn", 4), ("place", 5), ("value", 6)]) (N := nsMach) (sc := defScope (topS 9)) (by decide +kernel))
        (fun _ _ _ _ _ => pg_tup rfl (pgs_cons (pg_name (i := 3) scMach.nd rfl (.inl rfl)) (pgs_cons (pg_name (i := 4) scMach.nd rfl (.inl rfl)) (pgs_cons (pg_name (i := 5) scMach.nd rfl (.inl rfl)) (pgs_cons (pg_name (i := 6) scMach.nd rfl (.inl rfl)) pgs_nil))))) (fun _ _ _ _ _ => pts_nil)
        (fun _ _ _ _ _ => pv 3)))), ?_⟩
    refine q_unpT2 (ev_var rfl) h1 [some (.ref a), some c, some (.ref p), none, none, none, none] rfl (fun H1 e1 => ?_)
    refine s_retL (el_lcT4 (xs := ps) (ys := ms.map V.int) (ev_var rfl) (st_of (e1 _ _ h2)) (by have := h3.length; omega) (fun _ _ _ _ => rfl) (by rw [List.length_map]; exact h3.length.symm) (fun i x y H2 e2 hx hy => ?_)) (fun r H2 hr2 e2 h2' => q r H2 (fresh_back e1 hr2) (e1.trans e2) h2')
    obtain ⟨b, m, x1, x2, x3, rfl, rfl, hb⟩ := LsA.pt h3 hx hy
    exact ⟨b, .int m, x1, x2, x3, rfl, (e1.trans e2) _ _ hb, ev_var rfl⟩
/-- is_int, is_index over ints -/
structure RunT (K : PySem.W.Frag) (mg : Str → Option Value) : Prop where
  isinst : mg "isinstance" = none
  int : mg "int" = none
  bool : mg "bool" = none
  len : mg "len" = none
  any : mg "any" = none
  tuple : mg "tuple" = none
def spIsInt : Sp := fun vs H Q _ => ∃ i : Int, vs = [.int i] ∧ RetV (.bl true) H Q
theorem scIsInt : FnScope ["value"] ["value"] (defScope (topS 2)) := ⟨rfl, rfl, rfl, by decide +kernel, rfl, by decide +kernel, by decide +kernel⟩
theorem ok_isint {f : Addr} {fd : FuncData} (F : Fun K "is_int" "is_int" (topS 2) f fd) (T : RunT K mg) : FnOk P w K mg base CX0 1 f fd ["value"] spIsInt := by
  refine F.ok scIsInt (fun vs H Q E h => ?_) (fun cdv A outer s H vs Q E hr h => ?_)
  · obtain ⟨i, rfl, _⟩ := h
    rfl
  · obtain ⟨i, rfl, q⟩ := h
    refine ⟨_, pss_one (ps_ret (pe_and (pe_callB call_isi (by rfl) T.isinst (by decide +kernel) (pa_cons (pv 0) (pa_cons (pe_bltn (v := .ty "int") (by rfl) T.int (by decide +kernel) rfl) pa_nil)))
      (pe_one (pe_not (pe_callB call_isi (by rfl) T.isinst (by decide +kernel) (pa_cons (pv 0) (pa_cons (pe_bltn (v := .ty "bool") (by rfl) T.bool (by decide +kernel) rfl) pa_nil))))))), ?_⟩
    exact s_ret (ev_andV (a := true) (b := true) (ev_cb (ea_cons (ev_var rfl) (ea_cons ev_c ea_nil)) (rc_isInt (by decide +kernel)))
        (fun _ => ev_notV (a := false) (ev_cb (ea_cons (ev_var rfl) (ea_cons ev_c ea_nil)) (rc_isInt (by decide +kernel))))) q
def spIndex : Sp := fun vs H Q _ => ∃ i n : Int, vs = [.int i, .int n] ∧ RetV (.bl (decide (0 ≤ i) && decide (i < n))) H Q
theorem scIndex : FnScope ["at", "count"] ["at", "count"] (defScope (topS 3)) := ⟨rfl, rfl, rfl, by decide +kernel, rfl, by decide +kernel, by decide +kernel⟩
theorem ok_index {f : Addr} {fd : FuncData} (F : Fun K "is_index" "is_index" (topS 3) f fd) (GI : CalX P w K mg base CX0 1 "is_int" spIsInt) : FnOk P w K mg base CX0 2 f fd ["at", "count"] spIndex := by
  refine F.ok scIndex (fun vs H Q E h => ?_) (fun cdv A outer s H vs Q E hr h => ?_)
  · obtain ⟨i, n, rfl, _⟩ := h
    rfl
  · obtain ⟨i, n, rfl, q⟩ := h
    refine ⟨_, pss_one (ps_ret (pe_and (pe_cx (E := fun _ => E0) GI hr (by decide) (by rfl) at0 (pa_cons (pv 0) pa_nil)) (pe_one (pe_chain op_le op_lt pe_int (pv 0) (pv 1))))), ?_⟩
    exact s_ret (ev_andV (a := true) (ev_cx (ea_cons (ev_var rfl) ea_nil) (fun H1 _ Q' q' E' => ⟨i, rfl, fun H2 e2 => q' H2 e2⟩)) (fun _ => ev_chain ev_c (ev_var rfl) rv_I0 (fun _ => ev_var rfl) (fun _ => rv_I0))) q
end
end Fs

set_option Elab.async false
set_option linter.all false
set_option maxRecDepth 100000
set_option maxHeartbeats 8000000
namespace Fs
open PySem L2 Evl FsE FsC FsR FsK
/-! runs in the heap -/
def RnAt (C : Addr) (H : Hp) (a : Addr) (xs : List V) : Prop := ∃ dx t, H a = some (.ins C dx [("rows", .ref t)]) ∧ H t = some (.tup xs)
theorem RnAt.ex {C : Addr} {H H' : Hp} (e : Ex H H') {a : Addr} {xs : List V} (h : RnAt C H a xs) : RnAt C H' a xs := by
  obtain ⟨dx, t, h1, h2⟩ := h
  exact ⟨dx, t, e _ _ h1, e _ _ h2⟩
theorem RnAt.keep {C : Addr} {H H' : Hp} (e : ExN H H') {a : Addr} {xs : List V} (h : RnAt C H a xs) : RnAt C H' a xs := by
  obtain ⟨dx, t, h1, h2⟩ := h
  exact ⟨dx, t, e.ins _ _ _ _ h1, e.tup _ _ h2⟩
structure RunC (K : PySem.W.Frag) (mg : Str → Option Value) (C : Addr) : Prop where
  cl : Cls K C
  nR : NoAttr K C "rows"
  mgC : mg "Run" = some (.ref C)
theorem rn_lookup {t : Addr} : List.lookup ("rows" : Str) [("rows", V.ref t)] = some (.ref t) := by
  rw [List.lookup_cons, show (("rows" : Str) == "rows") = true from by decide +kernel]
section
variable {σ : L2.St} {H : Hp} {te ta tv : TE} {K : PySem.W.Frag} {C : Addr}
theorem s_fldU {a dx : Addr} {fs : List (Str × V)} {f : Str} {xs : List V} {D : Ends} (hv : EvU tv σ H xs) (ho : ∀ H1, Ex H H1 → Ev ta σ H1 (.ref a)) (hi : H a = some (.ins C dx fs)) (cl : Cls K C) (n : NoAttr K C f) (hl : fs.length < 1000)
    (k : ∀ t H1, H t = none → Ex H H1 → H1 t = some (.tup xs) → D.nx σ (upd H1 a (.ins C dx (putF f (.ref t) fs)))) : sFld K ta tv f D σ H :=
  hv H (Ex.refl H) _ fun t H1 ht e1 h1 => ho H1 e1 H1 (Ex.refl H1) _ fun H2 e2 => ⟨a, C, dx, fs, rfl, (e1.trans e2) _ _ hi, cl, n, hl, k t H2 ht (e1.trans e2) (e2 _ _ h1)⟩
/-- tuple(xs), xs a list -/
theorem eu_tupL {l : Addr} {xs : List V} (h : Ev te σ H (.ref l)) (hl : SqL K H l xs) : EvU (tCB (fun xs H Q => ∃ p ys, xs = [V.ref p] ∧ ((SqL K H p ys ∧ ∀ l, H l = none → Q (.ref l) (upd H l (.tup ys))) ∨ (SqT K H p ys ∧ Q (.ref p) H))) (tCons te tNil)) σ H xs := fun H1 e Q q =>
  h H1 e _ fun H2 e2 => ⟨l, xs, rfl, .inl ⟨ex_l (e.trans e2) hl, fun p hp => q p _ (fresh_back e2 hp) (e2.trans (Ex.new hp)) upd_same⟩⟩
theorem eu_slT {tl th : TO} {a : Addr} {xs : List V} {lo hi : Option Int} (h : Ev te σ H (.ref a)) (h1 : EvO tl σ H lo) (h2 : EvO th σ H hi) (hs : SqT K H a xs) (hw : ¬ (HT.sIx xs.length 0 lo = 0 ∧ HT.sIx xs.length xs.length hi = xs.length)) : EvU (tSl (rSlT K) te tl th) σ H (cutV xs lo hi) := fun H1 e _ q =>
  h H1 e _ fun H2 e2 => h1 H2 (e.trans e2) _ fun H3 e3 => h2 H3 ((e.trans e2).trans e3) _ fun H4 e4 =>
    ⟨a, xs, rfl, ex_t (((e.trans e2).trans e3).trans e4) hs, hw, fun p hp => q p _ (fresh_back ((e2.trans e3).trans e4) hp) (((e2.trans e3).trans e4).trans (Ex.new hp)) upd_same⟩
end
section
variable {P : Program} {w : World} {K : PySem.W.Frag} {mg : Str → Option Value} {base : Heap} {C : Addr}
def spRunInit (K : PySem.W.Frag) (C : Addr) : Sp := fun vs H Q _ => ∃ (a dx l : Addr) (xs : List V) (H0 : Hp), vs = [.ref a, .ref l] ∧ H a = some (.ins C dx []) ∧ H0 a = none ∧ Ex H0 H ∧ SqL K H0 l xs ∧ ∀ H', Ex H0 H' → RnAt C H' a xs → Q .non H'
theorem scRunInit : FnScope ["self", "meetings"] ["self", "meetings"] (defScope (inClass (topS 11) 0)) := ⟨rfl, rfl, rfl, by decide +kernel, rfl, by decide +kernel, by decide +kernel⟩
theorem ok_runinit {f : Addr} {fd : FuncData} (F : Fun K "__init__" "Run.__init__" (inClass (topS 11) 0) f fd) (T : RunT K mg) (R : RunC K mg C) : FnOk P w K mg base CX0 1 f fd ["self", "meetings"] (spRunInit K C) := by
  refine F.ok scRunInit (fun vs H Q E h => ?_) (fun cdv A outer s H vs Q E hr h => ?_)
  · obtain ⟨a, dx, l, xs, H0, rfl, _⟩ := h
    rfl
  · obtain ⟨a, dx, l, xs, H0, rfl, ha, hna, e0, hl, q⟩ := h
    refine ⟨_, pss_one (ps_fld (pv 0) (pe_callTy call_tuple_of (by rfl) T.tuple (by decide +kernel) (pa_cons (pv 1) pa_nil)) rfl), ?_⟩
    refine s_fldU (xs := xs) (eu_tupL (ev_var rfl) (ex_l e0 hl)) (fun H1 e1 => ev_var rfl) ha R.cl R.nR (by show 0 < 1000; decide) (fun t H1 ht e1 h1 => ?_)
    have hne : t ≠ a := fun z => by
      subst z
      rw [ha] at ht
      cases ht
    exact q _ (Ex.mut (e0.trans e1) hna) ⟨dx, t, upd_same, by rw [upd_ne hne]; exact h1⟩
def spRunLen (C : Addr) : Sp := fun vs H Q _ => ∃ (a : Addr) (xs : List V), vs = [.ref a] ∧ RnAt C H a xs ∧ RetV (.int (xs.length : Int)) H Q
theorem scRunLen : FnScope ["self"] ["self"] (defScope (inClass (topS 11) 2)) := ⟨rfl, rfl, rfl, by decide +kernel, rfl, by decide +kernel, by decide +kernel⟩
theorem ok_runlen {f : Addr} {fd : FuncData} (F : Fun K "__len__" "Run.__len__" (inClass (topS 11) 2) f fd) (T : RunT K mg) (R : RunC K mg C) : FnOk P w K mg base CX0 1 f fd ["self"] (spRunLen C) := by
  refine F.ok scRunLen (fun vs H Q E h => ?_) (fun cdv A outer s H vs Q E hr h => ?_)
  · obtain ⟨a, xs, rfl, _⟩ := h
    rfl
  · obtain ⟨a, xs, rfl, ⟨dx, t, h1, h2⟩, q⟩ := h
    refine ⟨_, pss_one (ps_ret (pe_callB call_len_seq (by rfl) T.len PySem.boot_len (pa_cons (pe_fld (pv 0) rfl) pa_nil))), ?_⟩
    exact s_ret (ev_lenT (K := K) (ev_fld (ev_var rfl) h1 R.cl R.nR rn_lookup) (st_of h2)) q
def spRunGet (C : Addr) : Sp := fun vs H Q _ => ∃ (a : Addr) (xs : List V) (i : Nat) (v : V), vs = [.ref a, .int (i : Int)] ∧ RnAt C H a xs ∧ xs[i]? = some v ∧ RetV v H Q
theorem scRunGet : FnScope ["self", "at"] ["self", "at"] (defScope (inClass (topS 11) 4)) := ⟨rfl, rfl, rfl, by decide +kernel, rfl, by decide +kernel, by decide +kernel⟩
theorem ok_runget {f : Addr} {fd : FuncData} (F : Fun K "__getitem__" "Run.__getitem__" (inClass (topS 11) 4) f fd) (T : RunT K mg) (R : RunC K mg C) (GX : CalX P w K mg base CX0 2 "is_index" spIndex) : FnOk P w K mg base CX0 3 f fd ["self", "at"] (spRunGet C) := by
  refine F.ok scRunGet (fun vs H Q E h => ?_) (fun cdv A outer s H vs Q E hr h => ?_)
  · obtain ⟨a, xs, i, v, rfl, _⟩ := h
    rfl
  · obtain ⟨a, xs, i, v, rfl, ⟨dx, t, h1, h2⟩, hv, q⟩ := h
    refine ⟨_, pss_cons (ps_if (pt_not (pt_val (pe_cx (E := fun _ => E0) GX hr (by decide) (by rfl) at0 (pa_cons (pv 1) (pa_cons (pe_callB call_len_seq (by rfl) T.len PySem.boot_len (pa_cons (pe_fld (pv 0) rfl) pa_nil)) pa_nil))))) L2.pss_never pss_nil)
      (pss_one (ps_ret (pe_ix ix_tup (pe_fld (pv 0) rfl) (pv 1) (fun _ _ => rfl)))), ?_⟩
    have hi := (List.getElem?_eq_some_iff.mp hv).1
    refine q_when (b := false) (et_is (et_not (et_B (ev_cx (z := .bl (decide (0 ≤ (i : Int)) && decide ((i : Int) < (xs.length : Int)))) (ea_cons (ev_var rfl) (ea_cons (ev_lenT (K := K) (ev_fld (ev_var rfl) h1 R.cl R.nR rn_lookup) (st_of h2)) ea_nil)) (fun H1 _ Q' q' E' => ⟨_, _, rfl, fun H2 e2 => q' H2 e2⟩)))) (by
      rw [decide_eq_true (show (0 : Int) ≤ (i : Int) by omega), decide_eq_true (show (i : Int) < (xs.length : Int) by omega)]; rfl)) (fun hb => nomatch hb) (fun _ H1 e1 => ?_)
    exact s_ret (v := v) (ev_op (y := .int (i : Int)) (ev_fld (ev_var rfl) (e1 _ _ h1) R.cl R.nR rn_lookup) (ev_var rfl) (rv_ixT (st_of (e1 _ _ h2)) (atI_nat hv))) (fun H2 e2 => q H2 (e1.trans e2))
def mssF (mss : List (List Int)) (k : Nat) : List Int := mss.getD k []
theorem rw_get {H : Hp} {xs : List V} {mss : List (List Int)} {i : Nat} (h : RwAt H xs mss) (hm : MsOk mss) (hi : i < xs.length) : ∃ v, xs[i]? = some v ∧ MtAt H v (mssF mss i) ∧ (mssF mss i).length ≤ 20 := by
  obtain ⟨v, ms, h1, h2, h3⟩ := LsA.at_ h hi
  have e : mssF mss i = ms := by
    unfold mssF
    rw [List.getD_eq_getElem?_getD, h2]
    rfl
  refine ⟨v, h1, by rw [e]; exact h3, ?_⟩
  rw [e]
  exact hm.2 _ (List.mem_of_getElem? h2)
theorem ev_ixO {σ : L2.St} {H : Hp} {ta tb : TE} {E : L2.St → XK} {a : Addr} {xs : List V} {i : Nat} {v : V} (ha : Ev ta σ H (.ref a)) (hb : Ev tb σ H (.int (i : Int))) (hr : RnAt C H a xs) (hv : xs[i]? = some v) : Ev (tIxO C (spRunGet C) E ta tb) σ H v := fun H1 e Q q =>
  ha H1 e _ fun H2 e2 => hb H2 (e.trans e2) _ fun H3 e3 => by
    have r3 := hr.ex ((e.trans e2).trans e3)
    have r3' := r3
    obtain ⟨dx, t, h1, h2⟩ := r3'
    exact ⟨a, dx, _, rfl, h1, a, xs, i, v, rfl, r3, hv, fun H4 e4 => q H4 ((e2.trans e3).trans e4)⟩
end
end Fs

set_option Elab.async false
set_option linter.all false
set_option maxRecDepth 100000
set_option maxHeartbeats 2000000
/-! d.setdefault(k, v), the keys tuples of whole numbers and texts -/
namespace FsG
open PySem PySem.Spec PyProof.Rows L2
section
variable {X : Cx} {pins : List (Addr × Obj)} {σ : L2.St} {H : Hp} {s : Shared} {a b : Addr} {r : Value} {d : V} {k : List L2.Key} {A : Around} {E : Value → Shared → Prop}
theorem d_setdT {kvs : List (List L2.Key × V)} {Q : Value → Shared → Prop} (hu : A.units + 1 < cLine) (I : Inv X pins σ H s) (e : H a = some (.dT kvs)) (eb : H b = some (.tup (k.map kV))) (rd : RelV d r) (hl : kvs.length < sizeLine)
    (h1 : ∀ v, valV kvs k = some v → ∀ (w' : Value) (s' : Shared), Inv X pins σ H s' → RelV v w' → Q w' s') (h2 : valV kvs k = none → ∀ (w' : Value) (s' : Shared), Inv X pins σ (upd H a (.dT (putK kvs k d))) s' → RelV d w' → Q w' s') :
    wpAny (model X.prog X.w) A (call (.builtin "dict.setdefault") [.ref a, .ref b, r]) Q E s := by
  obtain ⟨z, hd, vs, rel, dd⟩ := dt_of I.hok e
  have hz : vs.length ≤ sizeLine := by
    rw [← Paired.length rel]
    exact z
  refine call_setdefault_heap (knd := tupleKind (mixKind X.prog X.w)) (k := k) (tupleKind_room_in1 hu) (key_of I.hok eb) hd dd (fun p hp => ?_) (fun hn h' dd' hs => ?_) hz
  · have q := rel.val k
    rw [hp] at q
    cases q0 : valV kvs k with
    | none =>
      rw [q0] at q
      exact (show False from q).elim
    | some v0 =>
      rw [q0] at q
      exact h1 v0 q0 _ _ (I.tok _) q
  · have q := rel.val k
    rw [hn] at q
    cases q0 : valV kvs k with
    | some v0 =>
      rw [q0] at q
      exact (show False from q).elim
    | none =>
      have hl2 : (putK kvs k d).length ≤ sizeLine := by
        have := length_putK kvs k d
        omega
      have R2 := KT.put rel k eb rd
      obtain ⟨o, es, ep, hq, x2, x3, x4, _, x5⟩ := dd'
      have I2 : Inv X pins σ (upd H a (.dT (putK kvs k d))) { s with heap := h', toks := s.toks + (tupleKind (mixKind X.prog X.w)).draws k } :=
        d_write I (by rw [e]; exact True.intro) hs ⟨o, hq⟩ ⟨hl2, hd, _, R2.keeps (fun c ys ec => (by rw [upd_ne (ne_of ec e (fun z => nomatch z))]; exact ec)), o, es, ep, hq, x2, x3, x4, x5⟩
      exact h2 q0 _ _ I2 rd
end
def tDSetdT (td ty tx : TE) : TE := fun σ H Q => td σ H fun x H1 => ∃ a, x = .ref a ∧ IsD H1 a ∧ ty σ H1 fun y H2 => tx σ H2 fun z H3 => ∃ (kvs : List (List L2.Key × V)) (k : List L2.Key) (b : Addr), H3 a = some (.dT kvs) ∧ y = .ref b ∧ H3 b = some (.tup (k.map kV)) ∧ kvs.length < sizeLine ∧
  (∀ v, valV kvs k = some v → Q v H3) ∧ (valV kvs k = none → Q z (upd H3 a (.dT (putK kvs k z))))
section
variable {X : Cx} {o e f : Expr} {td ty tx : TE} {apos cpos : Pos}
theorem pe_dsetdT (hu : X.A.units + 1 < cLine) (ho : PE X o td) (he : PE X e ty) (hf : PE X f tx) (m : M2 X o "setdefault" apos e f cpos) : PE X (.Call (.Attribute o "setdefault" apos) [e, f] [] cpos) (tDSetdT td ty tx) := by
  refine ⟨fun pins s σ H Q I h => ?_⟩
  refine wpAny_Call_method m.base m.few m.line PySem.F.plainAttrs_dict PySem.F.slot_dict_setdefault PySem.F.type_dict_setdefault (thn (ho.run pins s σ H _ I h) fun u s1 ⟨x, H1, I1, rx, a, ex, d, q1⟩ => ?_)
  subst ex
  obtain rfl : u = Value.ref a := rx
  obtain ⟨t1, t2, _⟩ := isD_at I1 d
  refine ⟨t1, t2, ?_⟩
  rw [m.trees]
  refine Calls.callWith_builtin rfl (Calls.evalArgs_plain (Calls.spliced_cons (thn (he.run pins s1 σ H1 _ I1 q1) fun iv s2 ⟨y, H2, I2, ry, q2⟩ =>
    Calls.spliced_cons (thn (hf.run pins s2 σ H2 _ I2 q2) fun fv s3 ⟨z, H3, I3, rz, kvs, k, b, ea, ey, eb, hl, q3, q4⟩ => Calls.spliced_nil ?_))))
  subst ey
  obtain rfl : iv = Value.ref b := ry
  exact d_setdT hu I3 ea eb rz hl (fun v hv w' s4 I4 rw' => ⟨v, _, I4, rw', q3 v hv⟩) fun hn w' s4 I4 rw' => ⟨z, _, I4, rw', q4 hn⟩
end
end FsG

set_option Elab.async false
set_option linter.all false
set_option maxRecDepth 100000
set_option maxHeartbeats 2000000
/-! X(), X an own exception class without an __init__ of its own -/
namespace FsG
open PySem PySem.Spec PyProof.Rows L2
theorem pmk_own0 {X : Cx} {C : Addr} {bmB : List Value} {B newId initId : String} {x : Str} {p pos : Pos} (F : ExcBaseFacts B newId initId bmB) (q : PySem.W.excIn X.K C bmB newId = true) (gC : X.mg x = some (.ref C)) (kC : PySem.W.keepIn X.K (.ref C) = true) (r : Raises X (.ref C)) (hg : Gl X x)
    (hdb : (x == ("__debug__" : Str)) = false := by decide) : PMk X (.Call (.Name x p) [] [] pos) (fun _ H Q => Q (.ref C) none H) := by
  intro pins s σ H Q I h
  refine wpAny_Call_Name_kw (ld_glob I hg gC ?_ hdb)
  obtain ⟨bm, N, nm, qn, bs, hdct, sn, sub, ab, col, dd, k0, k1, k2, k3, k5, mN, hC, hN, hni, T⟩ := exc_obj I.kIn q
  refine PySem.W.callWith_K0 I.kIn kC ?_
  obtain ⟨hp1, g1, d1, tk1, os1⟩ := s
  refine wpAny_call_exc_subT F T hC hN hni (fun h' e hm => ?_) (Nat.zero_le _)
  exact mk_of I hm r h (I.hok.gone hm.new)
end FsG

set_option Elab.async false
set_option linter.all false
set_option maxRecDepth 100000
set_option maxHeartbeats 2000000
/-! data of ints, texts and tuples, at a value of the heap -/
namespace FsV
open PySem L2 Evl FsE
mutual
def DaAt (H : Hp) (v : V) : PyData → Prop
  | .int i => v = .int i
  | .str z => v = .str z
  | .tuple ds => ∃ (a : Addr) (xs : List V), v = .ref a ∧ H a = some (.tup xs) ∧ DaL H xs ds
  | _ => False
def DaL (H : Hp) (xs : List V) : List PyData → Prop
  | [] => xs = []
  | d :: ds => ∃ (v : V) (vs : List V), xs = v :: vs ∧ DaAt H v d ∧ DaL H vs ds
end
/-- tuples stay -/
def TK (H H' : Hp) : Prop := ∀ a xs, H a = some (.tup xs) → H' a = some (.tup xs)
theorem TK.of {H H' : Hp} (e : Ex H H') : TK H H' := fun a xs h => e a _ h
theorem TK.trans {H H1 H2 : Hp} (e : TK H H1) (f : TK H1 H2) : TK H H2 := fun a xs h => f a xs (e a xs h)
mutual
theorem DaAt.keep {H H' : Hp} (e : TK H H') : ∀ {d : PyData} {v : V}, DaAt H v d → DaAt H' v d
  | .int i, v, h => by unfold DaAt at h ⊢; exact h
  | .str z, v, h => by unfold DaAt at h ⊢; exact h
  | .tuple ds, v, h => by
    unfold DaAt at h ⊢
    obtain ⟨a, xs, h1, h2, h3⟩ := h
    exact ⟨a, xs, h1, e _ _ h2, DaL.keep e h3⟩
  | .none, v, h => by unfold DaAt at h; exact h.elim
  | .bool _, v, h => by unfold DaAt at h; exact h.elim
  | .list _, v, h => by unfold DaAt at h; exact h.elim
  | .dict _, v, h => by unfold DaAt at h; exact h.elim
theorem DaL.keep {H H' : Hp} (e : TK H H') : ∀ {ds : List PyData} {xs : List V}, DaL H xs ds → DaL H' xs ds
  | [], xs, h => by unfold DaL at h ⊢; exact h
  | d :: ds, xs, h => by
    unfold DaL at h ⊢
    obtain ⟨v, vs, h1, h2, h3⟩ := h
    exact ⟨v, vs, h1, DaAt.keep e h2, DaL.keep e h3⟩
end
theorem DaAt.ex {H H' : Hp} (e : Ex H H') {d : PyData} {v : V} (h : DaAt H v d) : DaAt H' v d := h.keep (TK.of e)
theorem DaL.ex {H H' : Hp} (e : Ex H H') {ds : List PyData} {xs : List V} (h : DaL H xs ds) : DaL H' xs ds := h.keep (TK.of e)
section
variable {K : PySem.W.Frag} {H : Hp}
mutual
theorem dp_da : ∀ {d : PyData} {v : V}, DaAt H v d → Dp K H v d
  | .int i, v, h => by unfold DaAt at h; subst h; exact .int i
  | .str z, v, h => by unfold DaAt at h; subst h; exact .str z
  | .tuple ds, v, h => by
    unfold DaAt at h
    obtain ⟨a, xs, h1, h2, h3⟩ := h
    subst h1
    exact .tup (st_of h2) (dp_dal h3)
  | .none, v, h => by unfold DaAt at h; exact h.elim
  | .bool _, v, h => by unfold DaAt at h; exact h.elim
  | .list _, v, h => by unfold DaAt at h; exact h.elim
  | .dict _, v, h => by unfold DaAt at h; exact h.elim
theorem dp_dal : ∀ {ds : List PyData} {xs : List V}, DaL H xs ds → DpAll K H xs ds
  | [], xs, h => by unfold DaL at h; subst h; exact .nil
  | d :: ds, xs, h => by
    unfold DaL at h
    obtain ⟨v, vs, h1, h2, h3⟩ := h
    subst h1
    exact .cons (dp_da h2) (dp_dal h3)
end
end
mutual
def Pl : PyData → Prop
  | .int _ => True
  | .str z => PyData.strOk z = true
  | .tuple ds => PlL ds
  | _ => False
def PlL : List PyData → Prop
  | [] => True
  | d :: ds => Pl d ∧ PlL ds
end
mutual
theorem eqv_pl : ∀ (d e : PyData), Pl d → Pl e → (PyData.eqv d e = true ↔ d = e)
  | .int i, e, h, g => by
    cases e <;> simp_all [Pl, PyData.eqv]
  | .str z, e, h, g => by
    cases e <;> simp_all [Pl, PyData.eqv]
  | .tuple ds, e, h, g => by
    cases e with
    | tuple es =>
      unfold Pl at h g
      have := eqv_plL ds es h g
      simp [PyData.eqv, this]
    | _ => simp_all [Pl, PyData.eqv]
  | .none, e, h, g => by unfold Pl at h; exact h.elim
  | .bool _, e, h, g => by unfold Pl at h; exact h.elim
  | .list _, e, h, g => by unfold Pl at h; exact h.elim
  | .dict _, e, h, g => by unfold Pl at h; exact h.elim
theorem eqv_plL : ∀ (ds es : List PyData), PlL ds → PlL es → (PyData.eqvAll ds es = true ↔ ds = es)
  | [], es, h, g => by cases es <;> simp [PyData.eqvAll]
  | d :: ds, es, h, g => by
    cases es with
    | nil => simp [PyData.eqvAll]
    | cons e es =>
      unfold PlL at h g
      have h1 := eqv_pl d e h.1 g.1
      have h2 := eqv_plL ds es h.2 g.2
      simp [PyData.eqvAll, h1, h2]
end
mutual
theorem lay_pl : ∀ (d : PyData), Pl d → d.canLay0 = true
  | .int i, h => by simp [PyData.canLay0]
  | .str z, h => by unfold Pl at h; simp [PyData.canLay0, h]
  | .tuple ds, h => by
    unfold Pl at h
    simp [PyData.canLay0, lay_plL ds h]
  | .none, h => by unfold Pl at h; exact h.elim
  | .bool _, h => by unfold Pl at h; exact h.elim
  | .list _, h => by unfold Pl at h; exact h.elim
  | .dict _, h => by unfold Pl at h; exact h.elim
theorem lay_plL : ∀ (ds : List PyData), PlL ds → PyData.canLayAll0 ds = true
  | [], h => by simp [PyData.canLayAll0]
  | d :: ds, h => by
    unfold PlL at h
    simp [PyData.canLayAll0, lay_pl d h.1, lay_plL ds h.2]
end
theorem plL_iff {ds : List PyData} : PlL ds ↔ ∀ d ∈ ds, Pl d := by
  induction ds with
  | nil => simp [PlL]
  | cons d ds ih => simp [PlL, ih]
theorem depthAll_le {k : Nat} : ∀ {ds : List PyData}, (∀ d ∈ ds, d.depth ≤ k) → PyData.depthAll ds ≤ k
  | [], _ => by simp [PyData.depthAll]
  | d :: ds, h => by
    have h1 := h d (List.mem_cons_self ..)
    have h2 := depthAll_le (k := k) (ds := ds) fun x hx => h x (List.mem_cons_of_mem _ hx)
    simp only [PyData.depthAll]
    omega
/-- plain, so deep at most -/
def Pk (k : Nat) (d : PyData) : Prop := Pl d ∧ d.depth ≤ k
theorem Pk.tup {k : Nat} {ds : List PyData} (h : ∀ d ∈ ds, Pk k d) : Pk (k + 1) (.tuple ds) := by
  refine ⟨?_, ?_⟩
  · unfold Pl
    exact plL_iff.mpr fun d hd => (h d hd).1
  · have := depthAll_le fun d hd => (h d hd).2
    simp only [PyData.depth]
    omega
theorem Pk.int {k : Nat} {i : Int} : Pk k (.int i) := ⟨by unfold Pl; trivial, by simp [PyData.depth]⟩
theorem Pk.str {k : Nat} {z : Str} (h : PyData.strOk z = true) : Pk k (.str z) := ⟨by unfold Pl; exact h, by simp [PyData.depth]⟩
theorem Pk.mono {j k : Nat} {d : PyData} (h : Pk j d) (hk : j ≤ k) : Pk k d := ⟨h.1, Nat.le_trans h.2 hk⟩
theorem Pk.shaped {k : Nat} {d : PyData} (h : Pk k d) (hk : k ≤ 64) : SeqAt.shaped d = true := by
  show (d.canLay0 && decide (d.depth ≤ 64)) = true
  rw [lay_pl d h.1, decide_eq_true (Nat.le_trans h.2 hk)]
  rfl
theorem Pk.eqv {j k : Nat} {d e : PyData} (h : Pk j d) (g : Pk k e) : PyData.eqv d e = true ↔ d = e := eqv_pl d e h.1 g.1
/-! lists of data -/
theorem DaL.length {H : Hp} : ∀ {ds : List PyData} {xs : List V}, DaL H xs ds → xs.length = ds.length
  | [], xs, h => by unfold DaL at h; subst h; rfl
  | d :: ds, xs, h => by
    unfold DaL at h
    obtain ⟨v, vs, h1, h2, h3⟩ := h
    subst h1
    rw [List.length_cons, List.length_cons, DaL.length h3]
theorem DaL.get {H : Hp} : ∀ {ds : List PyData} {xs : List V} {i : Nat} {d : PyData}, DaL H xs ds → ds[i]? = some d → ∃ v, xs[i]? = some v ∧ DaAt H v d
  | d :: ds, xs, 0, e, h, g => by
    unfold DaL at h
    obtain ⟨v, vs, h1, h2, h3⟩ := h
    subst h1
    cases g
    exact ⟨v, rfl, h2⟩
  | d :: ds, xs, i + 1, e, h, g => by
    unfold DaL at h
    obtain ⟨v, vs, h1, h2, h3⟩ := h
    subst h1
    exact DaL.get (i := i) h3 g
theorem DaL.got {H : Hp} : ∀ {ds : List PyData} {xs : List V} {i : Nat} {v : V}, DaL H xs ds → xs[i]? = some v → ∃ d, ds[i]? = some d ∧ DaAt H v d
  | [], xs, i, v, h, g => by unfold DaL at h; subst h; simp at g
  | d :: ds, xs, 0, v, h, g => by
    unfold DaL at h
    obtain ⟨w, vs, h1, h2, h3⟩ := h
    subst h1
    cases g
    exact ⟨d, rfl, h2⟩
  | d :: ds, xs, i + 1, v, h, g => by
    unfold DaL at h
    obtain ⟨w, vs, h1, h2, h3⟩ := h
    subst h1
    exact DaL.got (i := i) h3 g
theorem DaL.app {H : Hp} : ∀ {ds es : List PyData} {xs ys : List V}, DaL H xs ds → DaL H ys es → DaL H (xs ++ ys) (ds ++ es)
  | [], es, xs, ys, h, g => by unfold DaL at h; subst h; exact g
  | d :: ds, es, xs, ys, h, g => by
    unfold DaL at h
    obtain ⟨w, vs, h1, h2, h3⟩ := h
    subst h1
    show DaL H (w :: (vs ++ ys)) (d :: (ds ++ es))
    unfold DaL
    exact ⟨w, _, rfl, h2, DaL.app h3 g⟩
theorem DaL.take {H : Hp} : ∀ {ds : List PyData} {xs : List V} (n : Nat), DaL H xs ds → DaL H (xs.take n) (ds.take n)
  | ds, xs, 0, h => by rw [List.take_zero, List.take_zero]; unfold DaL; rfl
  | [], xs, n + 1, h => by unfold DaL at h; subst h; rw [List.take_nil, List.take_nil]; unfold DaL; rfl
  | d :: ds, xs, n + 1, h => by
    unfold DaL at h
    obtain ⟨w, vs, h1, h2, h3⟩ := h
    subst h1
    rw [List.take_succ_cons, List.take_succ_cons]
    unfold DaL
    exact ⟨w, _, rfl, h2, DaL.take n h3⟩
theorem DaL.drop {H : Hp} : ∀ {ds : List PyData} {xs : List V} (n : Nat), DaL H xs ds → DaL H (xs.drop n) (ds.drop n)
  | ds, xs, 0, h => h
  | [], xs, n + 1, h => by unfold DaL at h; subst h; rw [List.drop_nil, List.drop_nil]; unfold DaL; rfl
  | d :: ds, xs, n + 1, h => by
    unfold DaL at h
    obtain ⟨w, vs, h1, h2, h3⟩ := h
    subst h1
    exact DaL.drop n h3
theorem DaL.cons {H : Hp} {d : PyData} {ds : List PyData} {v : V} {vs : List V} (h : DaAt H v d) (g : DaL H vs ds) : DaL H (v :: vs) (d :: ds) := by
  unfold DaL
  exact ⟨v, vs, rfl, h, g⟩
theorem DaL.nil {H : Hp} : DaL H [] [] := by unfold DaL; rfl
theorem da_int {H : Hp} {i : Int} : DaAt H (.int i) (.int i) := by unfold DaAt; rfl
theorem da_str {H : Hp} {z : Str} : DaAt H (.str z) (.str z) := by unfold DaAt; rfl
theorem da_tup {H : Hp} {a : Addr} {xs : List V} {ds : List PyData} (h : H a = some (.tup xs)) (g : DaL H xs ds) : DaAt H (.ref a) (.tuple ds) := by
  unfold DaAt
  exact ⟨a, xs, rfl, h, g⟩
theorem DaAt.int {H : Hp} {v : V} {i : Int} (h : DaAt H v (.int i)) : v = .int i := by unfold DaAt at h; exact h
theorem DaAt.str {H : Hp} {v : V} {z : Str} (h : DaAt H v (.str z)) : v = .str z := by unfold DaAt at h; exact h
theorem DaAt.tup {H : Hp} {v : V} {ds : List PyData} (h : DaAt H v (.tuple ds)) : ∃ (a : Addr) (xs : List V), v = .ref a ∧ H a = some (.tup xs) ∧ DaL H xs ds := by unfold DaAt at h; exact h
theorem DaL.snoc {H : Hp} {d : PyData} {ds : List PyData} {v : V} {vs : List V} (g : DaL H vs ds) (h : DaAt H v d) : DaL H (vs ++ [v]) (ds ++ [d]) := g.app (DaL.cons h DaL.nil)
end FsV

set_option Elab.async false
set_option linter.all false
set_option maxRecDepth 100000
set_option maxHeartbeats 4000000
/-! lists made of new things, over a list -/
namespace FsW
open PySem L2 Evl FsE FsC FsR FsK
/-- a new list, with a word of its items -/
def EvLW (te : TE) (σ : L2.St) (H : Hp) (Pv : List V → Hp → Prop) : Prop := ∀ H1, Ex H H1 → ∀ Q : VK, (∀ p H2 ys, H1 p = none → Ex H1 H2 → H2 p = some (.lst ys) → Pv ys H2 → Q (.ref p) H2) → te σ H1 Q
def CwW {α : Type} (R : Hp → V → α → Prop) (H1 : Hp) (ns : List α) (Dl : Addr) (i : Nat) (H' : Hp) : Prop := H1 Dl = none ∧ Ex H1 H' ∧ ∃ ys, H' Dl = some (.lst ys) ∧ LsA R H' ys (ns.take i)
section
variable {α : Type} {R : Hp → V → α → Prop} {σ : L2.St} {H : Hp} {te tl ta tb tc td : TE} {K : PySem.W.Frag}
theorem cwW_turn {H1 H' : Hp} {ns : List α} {Dl : Addr} {i : Nat} {σ2 : L2.St} {n : α} (kp : ∀ H H' v x, ExN H H' → R H v x → R H' v x) (p : CwW R H1 ns Dl i H') (hi : i < 50000) (hn : ns[i]? = some n) (he : EvS te σ2 H1 (fun v H2 => R H2 v n)) :
    tYes σ2 H' fun b H3 => if b = true then te σ2 H3 fun y H4 => ∃ acc, H4 Dl = some (.lst acc) ∧ acc.length < sizeLine ∧ CwW R H1 ns Dl (i + 1) (upd H4 Dl (.lst (acc ++ [y]))) else CwW R H1 ns Dl (i + 1) H3 := by
  obtain ⟨p1, p2, ys, p3, p4⟩ := p
  show te σ2 H' fun y H4 => ∃ acc, H4 Dl = some (.lst acc) ∧ acc.length < sizeLine ∧ CwW R H1 ns Dl (i + 1) (upd H4 Dl (.lst (acc ++ [y])))
  refine he H' p2 _ fun y H4 e4 hy => ?_
  have h4 := e4 _ _ p3
  have hl := p4.length
  rw [List.length_take] at hl
  refine ⟨ys, h4, sz_lt (by omega), p1, Ex.mut (p2.trans e4) p1, ys ++ [y], upd_same, ?_⟩
  rw [List.take_add_one, hn]
  exact LsA.snoc (p4.imp fun _ _ z => kp _ _ _ _ ((ExN.of e4).trans (ExN.upd h4)) z) (kp _ _ _ _ (ExN.upd h4) hy)
/-- [e for x in (a list)], e new -/
theorem elw_L {a : Addr} {xs : List V} {j : Nat} {vs : List Nat} (ns : List α) (kp : ∀ H H' v x, ExN H H' → R H v x → R H' v x) (h : Ev tl σ H (.ref a)) (hx : SqL K H a xs) (hz : xs.length ≤ 40000) (hw : ∀ x, wipe ((wipe σ vs).set j (some x)) vs = wipe σ vs) (hl : ns.length = xs.length)
    (he : ∀ (i : Nat) (x : V) (n : α) H1, Ex H H1 → xs[i]? = some x → ns[i]? = some n → EvS te ((wipe σ vs).set j (some x)) H1 (fun v H2 => R H2 v n)) :
    EvLW (tLc (iList K tl) (gName j) tYes te vs) σ H (fun ys H' => LsA R H' ys ns) := fun H0 e Q q => h H0 e _ fun H1 e1 => ⟨a, rfl, ⟨xs, ex_l (e.trans e1) hx⟩, fun Dl hD =>
  lc_list (xs := xs) (CwW R H1 ns Dl) ⟨hD, Ex.new hD, [], upd_same, by rw [List.take_zero]; trivial⟩ (fun i H' _ p => ex_l ((e.trans e1).trans p.2.1) hx) (fun i x H' hi p => by
    have hi1 := (List.getElem?_eq_some_iff.mp hi).1
    have hn : ns[i]? = some ns[i] := List.getElem?_eq_getElem (by omega)
    exact ⟨hw x, cwW_turn kp p (by omega) hn (he i x _ H1 (e.trans e1) hi hn)⟩)
    (fun H' p => by
      obtain ⟨p1, p2, ys, p3, p4⟩ := p
      rw [List.take_of_length_le (by omega)] at p4
      exact q Dl H' ys (fresh_back e1 p1) (e1.trans p2) p3 p4)⟩
/-- x = (a new list) -/
theorem q_asgLW {i : Nat} {tz : TS} {D : Ends} {Pv : List V → Hp → Prop} (h : EvLW te σ H Pv) (k : ∀ p H1 ys, H p = none → Ex H H1 → H1 p = some (.lst ys) → Pv ys H1 → tz D (σ.set i (some (.ref p))) H1) : tSeq (tAsg te (gName i)) tz D σ H := h H (Ex.refl H) _ fun p H1 ys hp e h1 hk => k p H1 ys hp e h1 hk
end
end FsW

set_option Elab.async false
set_option linter.all false
set_option maxRecDepth 100000
set_option maxHeartbeats 6400000
/-! set(xs) of a list of whole numbers; sorted of it -/
namespace FsG
open PySem PySem.Spec PyProof.Rows L2
abbrev eSet (w : World) : Obj := { cls := .type "set", dict := none, data := .set #[] 0 (.fresh 0 0 (!w.params.followText "set-order")) }
section
variable {P : Program} {w : World} {A : Around} {E : Value → Shared → Prop} {s : Shared}
theorem made_of {l : Addr} {vs : Array Value} (ns : List Int) {Q : Value → Shared → Prop} (ha : A.handled = none) (lst : s.heap.IsList l vs) (whole : IntsAre vs.toList ns) (few : ns.length + 1 < scanBound)
    (k : ∀ (g : Heap) (t c : Nat), SetR w g s.heap.objs.size (fun j => decide (j ∈ ns)) c → c ≤ ns.length → (∀ b o, s.heap.get? b = some o → g.get? b = some o) → Q (.ref s.heap.objs.size) { s with heap := g, toks := t }) :
    wpAny (model P w) A (call (.type "set") [.ref l]) Q E s := by
  have many : vs.size = ns.length := (Array.length_toList (xs := vs)).symm.trans (IntsAre.length whole)
  -- the call of the class: __new__, then __init__
  obtain ⟨mc, mt, mm⟩ := F.called_set.mro
  have m1 := F.called_set.made; have m2 := F.called_set.sub; have m3 := F.called_set.notType; have m4 := F.called_set.canCreate; have m5 := F.typeCall_set_1 (.ref l)
  refine wpAny_call (codeAny_of_tree (show wpAny _ _ (callAny (.type "set") _) _ _ _ from wpAny_pure ⟨Code.quiet_builtin _ (by decide +kernel), codeAny_builtin F.entry_type_call ?_⟩))
  rw [Around.under_plain (weight_type_call_type "set" [.ref l] []) rfl]
  repeat (any_goals (first | wp_step | assumption))
  refine codeAny_mono (code_set_led1 (.ref l) (E := E) (Q₁ := fun v z => v = .ref s.heap.objs.size ∧ z = { s with heap := s.heap.push (eSet w) }) ⟨rfl, rfl⟩) fun r1 z1 h1 => ?_
  match r1, h1 with
  | .error _, h1 => exact h1
  | .ok .next, h1 => exact h1.elim
  | .ok .brk, h1 => exact h1.elim
  | .ok .cont, h1 => exact h1.elim
  | .ok (.ret _), h1 =>
    obtain ⟨rfl, rfl⟩ := h1
    have here : (s.heap.push (eSet w)).get? s.heap.objs.size = some (eSet w) := Heap.get?_push_size _ rfl
    have ty : Shared.TypeIs { s with heap := s.heap.push (eSet w) } (.ref s.heap.objs.size) "set" := ⟨_, here, rfl⟩
    have i1 := F.called_set.init.lookup; have i2 := F.called_set.init.bind (.ref s.heap.objs.size)
    repeat (any_goals (first | wp_step | assumption))
    refine codeAny_mono (codeAny_call_builtin (R := wants (fun u z => u = .none ∧ ∃ g t c, z = { s with heap := g, toks := t } ∧ SetR w g s.heap.objs.size (fun j => decide (j ∈ ns)) c ∧ c ≤ ns.length ∧ ∀ b o, s.heap.get? b = some o → g.get? b = some o) E)
      F.called_set.init.plain F.entry_set_init (check_set_init_1 ty ?_)) fun r2 z2 h2 => ?_
    · have lst1 : (s.heap.push (eSet w)).IsList l vs := lst.push _
      have low : l < s.heap.objs.size := by
        obtain ⟨o, e, _⟩ := lst
        exact Heap.lt_size e
      have d1 : (Value.type "list" == Value.type "dict") = false := by decide
      have d2 := F.sub_list_set; have d3 := F.sub_list_frozenset
      obtain ⟨⟨oc, od, oda, osl⟩, oe, e1, en, e2⟩ := id lst1
      simp only at e1 e2
      subst e1
      subst e2
      unfold Builtin.«set.__init__» Builtin.Frozenset.updateFrom noKeywords
      generalize g0 : pyIter = PX
      wp_walk
      subst g0
      have big : (s.heap.push (eSet w)).objs.size = s.heap.objs.size + 1 := Heap.size_push ..
      refine wpAny_pyIter_list lst1 (wpAny_bind (wpAny_runValue ?_))
      have lne : l ≠ (s.heap.push (eSet w)).objs.size := Nat.ne_of_lt (by rw [big]; exact Nat.lt_succ_of_lt low)
      refine set_update_ints ((Walks.list (show A.in1.in1.in1.handled = none by simp [ha]) _ l lne vs).toS) s.heap.objs.size (by
          simp only [List.mem_cons, List.not_mem_nil, or_false, not_or]
          exact ⟨Nat.ne_of_lt (by rw [big]; exact Nat.lt_succ_self _), (Nat.ne_of_lt low).symm⟩) ns many few (fun i v hv => ?_) (vs.size - 0) 0 _ rfl (Nat.zero_le _) ⟨⟨_, Heap.get?_push_size _ rfl, rfl, rfl⟩, lst1.push _⟩ ⟨0, Nat.le_refl 0, setR_new_at (Heap.get?_push_of_some _ here)⟩ (fun z c mv hc hR => ?_)
      · have hi : i < ns.length := by
          rw [← many]
          exact (Array.getElem?_eq_some_iff.mp hv).1
        obtain ⟨t, e⟩ := IntsAre.int_at whole i v (by rw [Array.getElem?_toList]; exact hv)
        exact ⟨ns[i], t, List.getElem?_eq_getElem hi, by rw [e, List.getD_eq_getElem?_getD, List.getElem?_eq_getElem hi]; rfl⟩
      · obtain ⟨zh, zg, zd, zt, zo⟩ := z
        have q1 : zg = s.gens := mv.gens
        have q2 : zd = s.drawn := mv.drawn
        have q3 : zo = s.os := mv.os
        subst q1 q2 q3
        refine wpAny_pure (wpAny_pure ⟨rfl, zh, zt, c, rfl, hR, by omega, fun b o e => ?_⟩)
        have lo := Heap.lt_size e
        refine mv.heap b o ?_ (Heap.get?_push_of_some _ (Heap.get?_push_of_some _ e))
        simp only [List.mem_cons, List.not_mem_nil, or_false, not_or]
        exact ⟨Nat.ne_of_lt lo, Nat.ne_of_lt (by rw [big]; exact Nat.lt_succ_of_lt lo)⟩
    · match r2, h2 with
      | .error _, h2 => exact h2
      | .ok .next, h2 => exact h2.elim
      | .ok .brk, h2 => exact h2.elim
      | .ok .cont, h2 => exact h2.elim
      | .ok (.ret _), h2 =>
        obtain ⟨rfl, g, t, c, rfl, a1, a2, a3⟩ := h2
        repeat (any_goals (first | wp_step | assumption))
        exact k g t c a1 a2 a3
end
theorem same_rise : ∀ {xs ys : List Int}, xs.Pairwise (· < ·) → ys.Pairwise (· < ·) → (∀ k, k ∈ xs ↔ k ∈ ys) → xs = ys
  | [], [], _, _, _ => rfl
  | [], y :: ys, _, _, h => absurd ((h y).mpr (List.mem_cons_self ..)) (by simp)
  | x :: xs, [], _, _, h => absurd ((h x).mp (List.mem_cons_self ..)) (by simp)
  | x :: xs, y :: ys, hx, hy, h => by
    obtain ⟨x1, x2⟩ := List.pairwise_cons.mp hx
    obtain ⟨y1, y2⟩ := List.pairwise_cons.mp hy
    have e : x = y := by
      rcases List.mem_cons.mp ((h x).mp (List.mem_cons_self ..)) with a | a
      · exact a
      · rcases List.mem_cons.mp ((h y).mpr (List.mem_cons_self ..)) with b | b
        · exact b.symm
        · have := x1 y b
          have := y1 x a
          omega
    subst e
    congr 1
    refine same_rise x2 y2 fun k => ⟨fun hk => ?_, fun hk => ?_⟩
    · rcases List.mem_cons.mp ((h k).mp (List.mem_cons_of_mem _ hk)) with a | a
      · have := x1 k hk
        omega
      · exact a
    · rcases List.mem_cons.mp ((h k).mpr (List.mem_cons_of_mem _ hk)) with a | a
      · have := y1 k hk
        omega
      · exact a
/-- set(xs) -/
def rSetI (K : PySem.W.Frag) (w : World) : List V → Hp → VK → Prop := fun xs H Q => ∃ (l : Addr) (ns : List Int), xs = [V.ref l] ∧ SqL K H l (ns.map V.int) ∧ ns.length ≤ 1000 ∧ ∀ p c, H p = none → c ≤ ns.length → Q (.ref p) (upd H p (SetO w p (fun j => decide (j ∈ ns)) c))
section
variable {X : Cx}
theorem cr_setI (hc : X.calm = true) : CallR X (.type "set") (rSetI X.K X.w) := by
  intro pins s σ H xs us Q I r h
  obtain ⟨l, ns, rfl, hq, hl, q⟩ := h
  rw [Vals.ref1 r]
  obtain ⟨its, rv, pl, hz⟩ := I.list hq
  have few : ns.length + 1 < scanBound := by
    unfold scanBound
    omega
  refine made_of ns (I.ok.hd hc) pl.isList (by simpa using RZ.intsAre_vals rv) few fun g t c R hcn k => ?_
  exact ⟨.ref _, _, I.laid (t' := t) k (Nat.le_refl _) (setO_new R), rfl, q _ c (I.hok.fresh (Nat.le_refl _)) hcn⟩
end
open Evl in
/-- what sorted(set(xs)) tells of a list that rises -/
theorem sorted_rise {w : World} {H : Hp} {ns : List Int} {Q : VK} {p : Addr} {c : Nat} (hp : H p = none) (few : ns.length < 64) (hcn : c ≤ ns.length) (rise : ns.Pairwise (· < ·)) (q : ∀ u H', H u = none → Ex H H' → H' u = some (.lst (ns.map V.int)) → Q (.ref u) H') :
    rSortedSet w [.ref p] (upd H p (SetO w p (fun j => decide (j ∈ ns)) c)) Q := ⟨p, _, c, rfl, upd_same, by omega, fun ms u h1 h2 h3 hu => by
  have e : ms = ns := same_rise h1 rise fun k => (h2 k).trans (by simp)
  subst e
  exact q u _ (by
    by_cases hup : u = p
    · rw [hup]
      exact hp
    · rw [upd_ne hup] at hu
      exact hu) ((Ex.new hp).trans (Ex.new hu)) upd_same⟩
end FsG

set_option Elab.async false
set_option linter.all false
set_option maxRecDepth 100000
set_option maxHeartbeats 4000000
/-! len(set(xs)) of a list of whole numbers that may repeat -/
namespace FsG
open PySem PySem.Spec PyProof.Rows L2
theorem sub_le : ∀ {keys ns : List Int}, keys.Nodup → (∀ k ∈ keys, k ∈ ns) → keys.length ≤ ns.length
  | [], ns, _, _ => Nat.zero_le _
  | k :: ks, ns, hn, hs => by
    have hk : k ∈ ns := hs k (List.mem_cons_self ..)
    have hn' := List.nodup_cons.mp hn
    have ih := sub_le (keys := ks) (ns := ns.erase k) hn'.2 fun x hx => (List.mem_erase_of_ne (fun (e : x = k) => hn'.1 (by rw [← e]; exact hx))).mpr (hs x (List.mem_cons_of_mem _ hx))
    rw [List.length_erase_of_mem hk] at ih
    have := List.length_pos_of_mem hk
    rw [List.length_cons]
    omega
theorem sub_perm : ∀ {keys ns : List Int}, keys.Nodup → (∀ k ∈ keys, k ∈ ns) → keys.length = ns.length → ns.Perm keys
  | [], ns, _, _, hl => by rw [List.eq_nil_of_length_eq_zero hl.symm]
  | k :: ks, ns, hn, hs, hl => by
    have hk : k ∈ ns := hs k (List.mem_cons_self ..)
    have hn' := List.nodup_cons.mp hn
    have ih := sub_perm (keys := ks) (ns := ns.erase k) hn'.2 (fun x hx => (List.mem_erase_of_ne (fun (e : x = k) => hn'.1 (by rw [← e]; exact hx))).mpr (hs x (List.mem_cons_of_mem _ hx))) (by
      rw [List.length_erase_of_mem hk, ← hl, List.length_cons]
      omega)
    exact (List.perm_cons_erase hk).trans (ih.cons k)
theorem len_nodup {keys ns : List Int} (hn : keys.Nodup) (h : ∀ k, k ∈ ns ↔ k ∈ keys) : keys.length = ns.length ↔ ns.Nodup := by
  constructor
  · intro hl
    exact (sub_perm hn (fun k hk => (h k).mpr hk) hl).nodup_iff.mpr hn
  · intro hd
    exact Nat.le_antisymm (sub_le hn fun k hk => (h k).mpr hk) (sub_le hd fun k hk => (h k).mp hk)
def tLenSetG (K : PySem.W.Frag) (ta : TE) : TE := fun σ H Q => ta σ H fun x H1 => ∃ (l : Addr) (ns : List Int), x = .ref l ∧ SqL K H1 l (ns.map V.int) ∧ ns.length ≤ 1000 ∧ ∀ c : Nat, (c = ns.length ↔ ns.Nodup) → Q (.int (c : Int)) H1
theorem pe_lenSetG {X : Cx} {a : Expr} {ta : TE} {p p2 q pos : Pos} (hg : Gl X "len") (hm : X.mg "len" = none) (hg2 : Gl X "set") (hm2 : X.mg "set" = none) (ha : PE X a ta) (hc : X.calm = true := by rfl)
    (na : starEach [a] X.env = (false, eval a X.env) :: starEach [] X.env := by rfl) : PE X (.Call (.Name "len" p) [.Call (.Name "set" p2) [a] [] q] [] pos) (tLenSetG X.K ta) := by
  refine ⟨fun pins s σ H Q I h => ?_⟩
  refine Call_ (ld_blt I hg hm boot_len ?_)
  refine PyProof.Rows.callWith_builtin1 (PyProof.Rows.args_cons ?_ rfl) rfl rfl
  refine Call_ (ld_blt I hg2 hm2 boot_set ?_)
  refine PyProof.Rows.callWith_type1 (PyProof.Rows.args_cons (thn (ha.run pins s σ H _ I h) fun v s1 ⟨x, H1, I1, r1, q1⟩ => PyProof.Rows.args_nil ?_) na) na rfl
  obtain ⟨l, ns, rfl, hq, hl, q1⟩ := q1
  cases r1
  obtain ⟨its, rv, pl, hz⟩ := I1.list hq
  have few : ns.length + 1 < scanBound := by
    unfold scanBound
    omega
  refine made_of ns (I1.ok.hd hc) pl.isList (by simpa using RZ.intsAre_vals rv) few fun g t c R hcn k => ?_
  refine PyProof.Rows.args_nil ?_
  obtain ⟨o, es, ep, t', ho, hex, hd, _, hnd, hmem, _, hf, hn, _⟩ := R
  have I2 : Inv X pins σ H1 { s1 with heap := g, toks := t } := I1.kept fun b o e => k b o e
  have hiff : c = ns.length ↔ ns.Nodup := by
    have h1 := len_nodup (keys := es.toList.map keyOf) (ns := ns) hnd fun k => by
      rw [← hmem k, decide_eq_true_eq]
    rw [List.length_map, Array.length_toList, hn] at h1
    exact h1
  exact call_len_set ho hex hd hf (by rw [hn] <;> omega) ⟨.int (c : Int), H1, I2.tok _, ⟨_, by rw [hn]⟩, q1 c hiff⟩
end FsG

set_option Elab.async false
set_option linter.all false
set_option maxRecDepth 100000
set_option maxHeartbeats 4000000
/-! {e for x in xs if ..} of whole numbers; len of such a set -/
namespace FsG
open PySem PySem.Spec PyProof.Rows L2 PpSet
section
variable {X : Cx}
/-- len(s) -/
def rLenSO (w : World) : List V → Hp → VK → Prop := fun vs H Q => ∃ (a : Addr) (S : Int → Bool) (n : Nat), vs = [.ref a] ∧ H a = some (SetO w a S n) ∧ n < 1000 ∧ ∀ ks : List Int, ks.Nodup → (∀ k, k ∈ ks ↔ S k = true) → ks.length = n → Q (.int (n : Int)) H
theorem cr_lenSO : CallR X (.builtin "len") (rLenSO X.w) := by
  intro pins s σ H vs us Q I r h
  obtain ⟨a, S, n, rfl, ha, hn, q⟩ := h
  obtain ⟨u, rfl, ru⟩ := vals1 r
  obtain rfl : u = Value.ref a := ru
  obtain ⟨o, es, ep, t', ho, hex, hd, _, hnd, hmem, _, hf, he, _⟩ := setO_get I ha
  refine call_len_set ho hex hd hf (by rw [he]; have := line63; omega) ⟨.int (n : Int), H, I.tok _, ⟨_, by rw [he]⟩, ?_⟩
  exact q (es.toList.map keyOf) hnd (fun k => (hmem k).symm) (by rw [List.length_map, Array.length_toList, he])
/-- the block's reading: D the new set, W its invariant by the turn and a measure -/
def tSci (w : World) (wi : TI) (g : TG) (tt : TT) (te : TE) (vs : List Nat) : TE := fun σ H Q => wi σ H fun J Hi => ∀ D, Hi D = none → ∃ W : Nat → Nat → Hp → Prop, (∃ m, W 0 m (upd Hi D (SetO w D (fun _ => false) 0))) ∧
  ∀ i m Ha, W i m Ha → (J.stop i Ha ∧ Q (.ref D) Ha) ∨ (J.go i Ha ∧ ∃ Nx : Hp → Prop, (∀ Hb, Nx Hb → ∃ m', m' < m ∧ W (i + 1) m' Hb) ∧ ∀ x Hb, J.yld i Ha x Hb → g x (wipe σ vs) Hb fun σc Hc => wipe σc vs = wipe σ vs ∧
    tt σc Hc fun b Hd => if b = true then te σc Hd fun y He => ∃ (k : Int) (S : Int → Bool) (n : Nat), y = .int k ∧ He D = some (SetO w D S n) ∧ n + 1 < scanBound ∧ Nx (upd He D (SetO w D (fun j => S j || decide (j = k)) (if S k = true then n else n + 1))) else Nx Hd)
theorem pe_sci {elt tg iter : Expr} {ifs : List Expr} {scope : Scope} {own : List (PySem.Str × Nat)} {pos : Pos} {wi : TI} {g : TG} {tt : TT} {te : TE} (calm : X.calm = true) (nd : X.N.Nodup) (pi : PI X tg iter wi) (bk : BlkOk X.N X.env.scope scope own)
    (kg : ∀ (sb : Shared) (Hb : Hp) (Cb : Addr) (cl : List (PySem.Str × Addr)) (fp : List Addr), PG (X.blk sb Hb scope (compEnvC scope cl Cb X.env) fp) tg g) (kt : ∀ (sb : Shared) (Hb : Hp) (Cb : Addr) (cl : List (PySem.Str × Addr)) (fp : List Addr), PTs (X.blk sb Hb scope (compEnvC scope cl Cb X.env) fp) ifs tt)
    (ke : ∀ (sb : Shared) (Hb : Hp) (Cb : Addr) (cl : List (PySem.Str × Addr)) (fp : List Addr), PE (X.blk sb Hb scope (compEnvC scope cl Cb X.env) fp) elt te) (fold : ∀ x, foldedSetIterable iter X.env x = pure x := by intro _; rfl) :
    PE X (.SetComp elt [⟨tg, iter, ifs, 0⟩] scope pos) (tSci X.w wi g tt te (own.map (·.2))) := by
  refine ⟨fun pins s σ H Q I want => ?_⟩
  have caught : ∀ y ∈ scope.names, y.2 = .free → ∃ c, X.env.cells.lookup y.1 = some c := fun y hy e => (bk.free y hy e).elim (fun z => I.ok.has _ (.inl z)) fun z => I.ok.has _ (.inr z)
  rw [eval_SetComp]
  refine wpAny_comprehension_free (use := none) rfl fold (closure_ok caught) bk.kind (fun y hy e => by rw [bk.uniq y hy, e]) (thn (pi.run pins s σ H _ I want) fun xv sx hx => thn hx fun itv sy hy => ?_)
  obtain ⟨it, fp, tn, J, Hy, ei, Iy, Tn, ty, fy, more⟩ := hy
  subst ei
  refine newSet_ok (newEnv_comp ?_)
  -- the new set stands at D
  obtain ⟨D, hD⟩ : ∃ D, D = sy.heap.objs.size := ⟨_, rfl⟩
  rw [← hD]
  obtain ⟨W, ⟨m0, w0⟩, turn⟩ := more D (Iy.hok.fresh (Nat.le_of_eq hD.symm))
  generalize ez : ({ sy with heap := sy.heap.push { cls := .type "set", dict := none, data := .set #[] 0 (.fresh 0 0 (!X.w.params.followText "set-order")) } } : Shared) = sz
  have hz : sz.heap = sy.heap.push { cls := .type "set", dict := none, data := .set #[] 0 (.fresh 0 0 (!X.w.params.followText "set-order")) } := by rw [← ez]
  have Iz : Inv X pins σ (upd Hy D (SetO X.w D (fun _ => false) 0)) sz := by
    rw [← ez]
    refine Iy.laid (t' := sy.toks) (fun b o e => Heap.get?_push_of_some _ e) (Nat.le_of_eq hD.symm) ?_
    rw [hD]
    exact setO_new (setR_fresh X.w)
  have small : ∀ b ∈ fp, b < sy.heap.objs.size := fun b hb => by
    obtain ⟨o, e, _⟩ := Tn.obj _ _ ty b hb
    exact Heap.lt_size e
  have fz : ∀ b ∈ fp, FpOk X pins (upd Hy D (SetO X.w D (fun _ => false) 0)) b ∧ b < sz.heap.objs.size := fun b hb => by
    have lt := small b hb
    refine ⟨⟨?_, (fy b hb).2⟩, by rw [hz, Heap.size_push]; exact Nat.lt_succ_of_lt lt⟩
    rw [upd_ne (by rw [hD]; exact Nat.ne_of_lt lt)]
    exact (fy b hb).1
  have tz : tn 0 sz.heap := Tn.keep _ _ _ ty fun b _ o e => by rw [hz]; exact Heap.get?_push_of_some _ e
  have Ib := block_start Iz bk nd fz
  have bg := kg sz (upd Hy D (SetO X.w D (fun _ => false) 0)) sz.heap.objs.size (cellsFrom (sz.heap.objs.size + 1) scope.names (cloFrom X.env.cells scope.names [])) fp
  have bt := kt sz (upd Hy D (SetO X.w D (fun _ => false) 0)) sz.heap.objs.size (cellsFrom (sz.heap.objs.size + 1) scope.names (cloFrom X.env.cells scope.names [])) fp
  have be := ke sz (upd Hy D (SetO X.w D (fun _ => false) 0)) sz.heap.objs.size (cellsFrom (sz.heap.objs.size + 1) scope.names (cloFrom X.env.cells scope.names [])) fp
  have out0 : ∀ b ∈ fp, (upd Hy D (SetO X.w D (fun _ => false) 0)) b = none := fun b hb => (fz b hb).1.1
  refine (show codeAny (model X.prog X.w) X.A (.compStart (.SetComp elt [⟨tg, iter, ifs, 0⟩] scope pos) 0 (.ref it) (.ref D) (compEnvC scope (cellsFrom (sz.heap.objs.size + 1) scope.names (cloFrom X.env.cells scope.names [])) sz.heap.objs.size X.env)) (compPost (model X.prog X.w) X.A X.xe none (EP X pins σ Q) (.ref D) sz.heap.objs.size)
    { sz with heap := pushCells (sz.heap.push { cls := .type "dict", data := .dict #[] }) scope.names } from ?_)
  generalize ec : compEnvC scope (cellsFrom (sz.heap.objs.size + 1) scope.names (cloFrom X.env.cells scope.names [])) sz.heap.objs.size X.env = ce at Ib bg bt be ⊢
  have eL : ce.locals = sz.heap.objs.size := by rw [← ec]; rfl
  generalize upd Hy D (SetO X.w D (fun _ => false) 0) = Hz at Iz Ib bg bt be w0 out0 fz
  generalize es : ({ sz with heap := pushCells (sz.heap.push { cls := .type "dict", data := .dict #[] }) scope.names } : Shared) = sb at Ib ⊢
  have tb : tn 0 sb.heap := Tn.keep _ _ _ tz fun b _ o e => by rw [← es]; exact pushCells_keeps _ _ _ _ (Heap.get?_push_of_some _ e)
  have apart : ∀ {σ' : L2.St} {H' : Hp} {s' : Shared}, Inv (X.blk sz Hz scope ce fp) [] σ' H' s' → (∀ b ∈ fp, H' b = none) → ∀ b ∈ fp, FpOk (X.blk sz Hz scope ce fp) [] H' b := fun {σ' H' s'} J' hn b hb =>
    ⟨hn b hb, (J'.ok.exf b hb).1, J'.ok.exfs b hb, .inl hb, fun x c e => (J'.ok.exf b hb).2 x c e, fun p hp => by simp [Cx.blk] at hp⟩
  have run : codeAny (model X.prog X.w) X.A (.compLoop (.SetComp elt [⟨tg, iter, ifs, 0⟩] scope pos) 0 (.ref it) (.ref D) ce) (compPost (model X.prog X.w) X.A X.xe none (EP X pins σ Q) (.ref D) sz.heap.objs.size) sb := by
    refine compLoopS_any (fun n s' => ∃ i H', Inv (X.blk sz Hz scope ce fp) [] (wipe σ (own.map (·.2))) H' s' ∧ tn i s'.heap ∧ (∀ b ∈ fp, H' b = none) ∧ W i n H') ?_ m0 ⟨0, Hz, Ib, tb, out0, w0⟩
    rintro n s1 ⟨i, H1, I1, t1, n1, w1⟩
    rcases turn i n H1 w1 with ⟨stop, ends⟩ | ⟨go, Nx, less, step⟩
    · refine thnF (Tn.done (X.blk sz Hz scope ce fp) rfl rfl rfl calm i [] s1 _ H1 (fun _ _ => False) I1 (apart I1 n1) t1 stop) fun r s2 ⟨hr, I2⟩ => ?_
      subst hr
      have Iback : Inv X pins σ H1 s2 := Iz.call' (ch := fp) I2.os I2.base I2.hok I2.bare fun b hb => ⟨(fz b hb).1.2.2.2.1, (fz b hb).1.2.1, (fz b hb).1.2.2.2.2.1, (fz b hb).1.2.2.2.2.2⟩
      have nC : H1 sz.heap.objs.size = none := by
        have := I2.free
        rw [show (X.blk sz Hz scope ce fp).env.locals = sz.heap.objs.size from eL] at this
        exact this
      obtain ⟨m, hm, _⟩ := I2.loc
      rw [show (X.blk sz Hz scope ce fp).env.locals = sz.heap.objs.size from eL] at hm
      obtain ⟨c0, c1, c2, c3, c4, c5⟩ := Iz.fpOk (Nat.le_refl _) nC
      exact ⟨m, hm, fun h'' sb' => ⟨.ref D, H1, Iback.turned (t' := s2.toks) (fun b o hb e => (sb'.2 b hb).trans e) c0 c1 c3 c4 c5, rfl, ends⟩⟩
    · refine thnF (Tn.item (X.blk sz Hz scope ce fp) rfl rfl rfl calm i [] s1 _ H1 (fun _ _ => False) I1 (apart I1 n1) t1 go) fun r s2 ⟨u, hr, h2⟩ => ?_
      subst hr
      refine thnF h2 fun _ s3 ⟨x, H3, I3, r3, y3, t3, n3⟩ => ?_
      refine thnF (bg.run _ s3 _ H3 x u _ (I3.pinned (apart I3 n3) (Tn.obj _ _ t3)) r3 (step x H3 y3)) fun _ s4 ⟨σ4, H4, I4, same, q4⟩ => ?_
      refine thnF (bt.run _ s4 σ4 H4 _ I4 q4) fun b s5 ⟨H5, I5, q5⟩ => ?_
      have next : ∀ {s' : Shared} {H' : Hp}, Inv (X.blk sz Hz scope ce fp) ([] ++ pinsAt fp s3.heap) σ4 H' s' → Nx H' → ∃ m, m < n ∧ ∃ i H', Inv (X.blk sz Hz scope ce fp) [] (wipe σ (own.map (·.2))) H' s' ∧ tn i s'.heap ∧ (∀ b ∈ fp, H' b = none) ∧ W i m H' := fun {s' H'} J' nx => by
        obtain ⟨m', lt, w'⟩ := less H' nx
        have held : ∀ b ∈ fp, ∀ o, s3.heap.get? b = some o → s'.heap.get? b = some o ∧ H' b = none := fun b hb o e =>
          have z := J'.pin (b, o) (List.mem_append_right _ (List.mem_append_right _ (mem_pinsAt hb e)))
          ⟨z.1, z.2.1⟩
        refine ⟨m', lt, i + 1, H', (J'.unpinned (pins := [])).weak (by rw [← same, wipe_length]) (fun j v e => by rw [← same] at e; exact (wipe_some e).1), Tn.keep _ _ _ t3 fun b hb o e => (held b hb o e).1, fun b hb => ?_, w'⟩
        obtain ⟨o, e, _⟩ := Tn.obj _ _ t3 b hb
        exact (held b hb o e).2
      cases b with
      | false =>
        simp only [Bool.false_eq_true, if_false] at q5 ⊢
        exact next I5 q5
      | true =>
        simp only [if_true] at q5 ⊢
        refine thnF (be.run _ s5 σ4 H5 _ I5 q5) fun z s6 ⟨yv, H6, I6, r6, k, S, c, ey, hS, room, nx⟩ => ?_
        subst ey
        refine thnF (mt_sadd (X := X.blk sz Hz scope ce fp) ([] ++ pinsAt fp s3.heap) s6 σ4 H6 (.ref D) [.int k] (.ref D) [z] (fun _ H' => Nx H') I6 rfl (.cons r6 .nil) ⟨D, k, S, c, rfl, rfl, hS, room, nx⟩) fun _ s7 ⟨_, H7, I7, _, n7⟩ => ?_
        exact next I7 n7
  exact codeAny_compStart_set run (Tn.self X.A 0 _ _ _ tb run)
end
end FsG

set_option Elab.async false
set_option linter.all false
set_option maxRecDepth 100000
set_option maxHeartbeats 4000000
/-! expressions that are tuples of data; comprehensions over data, with tests; sets of whole numbers by a comprehension -/
namespace FsD
open PySem L2 Evl FsE FsK FsV FsG FsW
/-- a tuple of data -/
def EvTu (te : TE) (σ : L2.St) (H : Hp) (ds : List PyData) : Prop := ∀ H1, Ex H H1 → ∀ Q : VK, (∀ a xs H2, Ex H1 H2 → H2 a = some (.tup xs) → DaL H2 xs ds → Q (.ref a) H2) → te σ H1 Q
def cutD (ds : List PyData) (lo hi : Option Int) : List PyData := (ds.drop (HT.sIx ds.length 0 lo)).take (HT.sIx ds.length ds.length hi - HT.sIx ds.length 0 lo)
section
variable {σ : L2.St} {H : Hp} {te ta tb : TE} {K : PySem.W.Frag} {ds es : List PyData}
theorem etu_of {a : Addr} {xs : List V} (h : Ev te σ H (.ref a)) (ha : H a = some (.tup xs)) (hd : DaL H xs ds) : EvTu te σ H ds := fun H1 e Q q => h H1 e _ fun H2 e2 => q a xs H2 e2 ((e.trans e2) _ _ ha) (hd.ex (e.trans e2))
theorem etu_da {v : V} (h : Ev te σ H v) (hd : DaAt H v (.tuple ds)) : EvTu te σ H ds := by
  obtain ⟨a, xs, rfl, ha, hx⟩ := hd.tup
  exact etu_of h ha hx
theorem etu_is (h : EvTu te σ H ds) (e : ds = es) : EvTu te σ H es := e ▸ h
theorem etu_sl {tl th : TO} {lo hi : Option Int} (h : EvTu te σ H ds) (h1 : EvO tl σ H lo) (h2 : EvO th σ H hi) : EvTu (tSl (rSlA K) te tl th) σ H (cutD ds lo hi) := fun H1 e Q q =>
  h H1 e _ fun a xs H2 e2 ha hd => h1 H2 (e.trans e2) _ fun H3 e3 => h2 H3 ((e.trans e2).trans e3) _ fun H4 e4 => by
    have e24 := e3.trans e4
    have n : xs.length = ds.length := hd.length
    refine ⟨a, xs, rfl, st_of (e24 _ _ ha), fun hw => ?_, fun _ p hp => ?_⟩
    · have : cutD ds lo hi = ds := by
        unfold cutD
        rw [n] at hw
        rw [hw.1, hw.2, List.drop_zero, Nat.sub_zero, List.take_length]
      rw [this] at q
      exact q a xs H4 (e2.trans e24) (e24 _ _ ha) (hd.ex e24)
    · refine q p _ _ ((e2.trans e24).trans (Ex.new hp)) upd_same ?_
      unfold cutV cutD
      rw [n]
      exact DaL.take _ (DaL.drop _ (hd.ex (e24.trans (Ex.new hp))))
theorem etu_cat (ha : EvTu ta σ H ds) (hb : EvTu tb σ H es) (hz : ds.length + es.length ≤ 1000) : EvTu (tOp (rCatA K) ta tb) σ H (ds ++ es) := fun H1 e Q q =>
  ha H1 e _ fun a xs H2 e2 h2 hd => hb H2 (e.trans e2) _ fun b ys H3 e3 h3 he => by
    have n1 : xs.length = ds.length := hd.length
    have n2 : ys.length = es.length := he.length
    refine ⟨a, b, xs, ys, rfl, rfl, st_of (e3 _ _ h2), st_of h3, by rw [n1, n2, sizeLine_eq]; omega, fun hx => ?_, fun _ hy => ?_, fun _ _ p hp => ?_⟩
    · have : ds = [] := List.eq_nil_of_length_eq_zero (by rw [← n1, hx]; rfl)
      subst this
      exact q b ys H3 (e2.trans e3) h3 he
    · have : es = [] := List.eq_nil_of_length_eq_zero (by rw [← n2, hy]; rfl)
      subst this
      rw [List.append_nil] at q
      exact q a xs H3 (e2.trans e3) (e3 _ _ h2) (hd.ex e3)
    · exact q p _ _ ((e2.trans e3).trans (Ex.new hp)) upd_same (DaL.app (hd.ex (e3.trans (Ex.new hp))) (he.ex (Ex.new hp)))
theorem etu_1 {d : PyData} (h : EvS te σ H (fun v H' => DaAt H' v d)) : EvTu (tTup (tCons te tNil)) σ H [d] := fun H1 e Q q =>
  h H1 e _ fun v H2 e2 hd => ⟨by show 1 ≤ sizeLine; decide, fun p hp => q p _ _ (e2.trans (Ex.new hp)) upd_same (DaL.cons (hd.ex (Ex.new hp)) DaL.nil)⟩
theorem etu_2 {d e' : PyData} (h : EvS ta σ H (fun v H' => DaAt H' v d)) (g : EvS tb σ H (fun v H' => DaAt H' v e')) : EvTu (tTup (tCons ta (tCons tb tNil))) σ H [d, e'] := fun H1 e Q q =>
  h H1 e _ fun v H2 e2 hd => g H2 (e.trans e2) _ fun u H3 e3 he => ⟨by show 2 ≤ sizeLine; decide, fun p hp => q p _ _ ((e2.trans e3).trans (Ex.new hp)) upd_same (DaL.cons (hd.ex (e3.trans (Ex.new hp))) (DaL.cons (he.ex (Ex.new hp)) DaL.nil))⟩
theorem es_tu (h : EvTu te σ H ds) : EvS te σ H (fun v H' => DaAt H' v (.tuple ds)) := fun H1 e Q q => h H1 e _ fun a xs H2 e2 h2 hd => q _ H2 e2 (da_tup h2 hd)
theorem es_da {v : V} {d : PyData} (h : Ev te σ H v) (hd : DaAt H v d) : EvS te σ H (fun v H' => DaAt H' v d) := fun H1 e Q q => h H1 e _ fun H2 e2 => q v H2 e2 (hd.ex (e.trans e2))
theorem cut_tk {j : Nat} : cutD ds none (some (j : Int)) = ds.take j := by
  unfold cutD
  rw [HT.sIx_none, HT.sIx_nat, List.drop_zero, Nat.sub_zero]
  by_cases h : j ≤ ds.length
  · rw [Nat.min_eq_left h]
  · rw [Nat.min_eq_right (by omega), List.take_length, List.take_of_length_le (by omega)]
theorem cut_dr {j : Nat} : cutD ds (some (j : Int)) none = ds.drop j := by
  unfold cutD
  rw [HT.sIx_none, HT.sIx_nat]
  by_cases h : j ≤ ds.length
  · rw [Nat.min_eq_left h, List.take_of_length_le (by rw [List.length_drop]; omega)]
  · rw [Nat.min_eq_right (by omega), List.drop_of_length_le (Nat.le_refl _), List.drop_of_length_le (by omega), List.take_nil]
theorem cut_m1 (h : ds ≠ []) : cutD ds none (some (-1)) = ds.take (ds.length - 1) := by
  have hp : 0 < ds.length := List.length_pos_iff.mpr h
  unfold cutD
  rw [HT.sIx_none, List.drop_zero, Nat.sub_zero]
  have e : HT.sIx ds.length ds.length (some (-1)) = ((-1 : Int) + (ds.length : Int)).toNat := rfl
  rw [e, show ((-1 : Int) + (ds.length : Int)).toNat = ds.length - 1 by omega]

/-- a list of data, new -/
def EvLD (te : TE) (σ : L2.St) (H : Hp) (ds : List PyData) : Prop := ∀ H1, Ex H H1 → ∀ Q : VK, (∀ p xs H2, H1 p = none → Ex H1 H2 → H2 p = some (.lst xs) → DaL H2 xs ds → Q (.ref p) H2) → te σ H1 Q
theorem eld_is (h : EvLD te σ H ds) (e : ds = es) : EvLD te σ H es := e ▸ h
theorem eld_cat (ha : EvLD ta σ H ds) (hb : EvLD tb σ H es) (hz : ds.length + es.length ≤ 100000) : EvLD (tOp rCat ta tb) σ H (ds ++ es) := fun H1 e Q q =>
  ha H1 e _ fun a xs H2 na e2 h2 hd => hb H2 (e.trans e2) _ fun b ys H3 nb e3 h3 he => by
    have n1 : xs.length = ds.length := hd.length
    have n2 : ys.length = es.length := he.length
    exact ⟨a, b, xs, ys, rfl, rfl, e3 _ _ h2, h3, sz_of (by omega), fun p hp => q p _ _ (fresh_back (e2.trans e3) hp) ((e2.trans e3).trans (Ex.new hp)) upd_same (DaL.app (hd.ex (e3.trans (Ex.new hp))) (he.ex (Ex.new hp)))⟩
/-- x + (a new list), x a list -/
theorem eld_catV {a : Addr} {xs : List V} (ha : Ev ta σ H (.ref a)) (hx : H a = some (.lst xs)) (hd : DaL H xs ds) (hb : EvLD tb σ H es) (hz : ds.length + es.length ≤ 100000) : EvLD (tOp rCat ta tb) σ H (ds ++ es) := fun H1 e Q q =>
  ha H1 e _ fun H2 e2 => hb H2 (e.trans e2) _ fun b ys H3 nb e3 h3 he => by
    have n1 : xs.length = ds.length := hd.length
    have n2 : ys.length = es.length := he.length
    have e13 := (e.trans e2).trans e3
    exact ⟨a, b, xs, ys, rfl, rfl, e13 _ _ hx, h3, sz_of (by omega), fun p hp => q p _ _ (fresh_back (e2.trans e3) hp) ((e2.trans e3).trans (Ex.new hp)) upd_same (DaL.app (hd.ex (e13.trans (Ex.new hp))) (he.ex (Ex.new hp)))⟩
/-- [] -/
theorem eld_nil : EvLD (tLst tNil) σ H [] := fun H1 e Q q => ⟨by show 0 ≤ sizeLine; decide, fun p hp => q p [] _ hp (Ex.new hp) upd_same DaL.nil⟩
/-- [x] -/
theorem eld_1 {d : PyData} (h : EvS te σ H (fun v H' => DaAt H' v d)) : EvLD (tLst (tCons te tNil)) σ H [d] := fun H1 e Q q =>
  h H1 e _ fun v H2 e2 hd => ⟨by show 1 ≤ sizeLine; decide, fun p hp => q p [v] _ (fresh_back e2 hp) (e2.trans (Ex.new hp)) upd_same (DaL.cons (hd.ex (Ex.new hp)) DaL.nil)⟩
theorem etu_nil : EvTu (tTup tNil) σ H [] := fun H1 e Q q => ⟨by show 0 ≤ sizeLine; decide, fun p hp => q p [] _ (Ex.new hp) upd_same DaL.nil⟩
theorem etu_3 {c d e' : PyData} {tc : TE} (h : EvS ta σ H (fun v H' => DaAt H' v c)) (g : EvS tb σ H (fun v H' => DaAt H' v d)) (k : EvS tc σ H (fun v H' => DaAt H' v e')) : EvTu (tTup (tCons ta (tCons tb (tCons tc tNil)))) σ H [c, d, e'] := fun H1 e Q q =>
  h H1 e _ fun v H2 e2 hd => g H2 (e.trans e2) _ fun u H3 e3 he => k H3 ((e.trans e2).trans e3) _ fun t H4 e4 hf => ⟨by show 3 ≤ sizeLine; decide, fun p hp => q p _ _ (((e2.trans e3).trans e4).trans (Ex.new hp)) upd_same
    (DaL.cons (hd.ex ((e3.trans e4).trans (Ex.new hp))) (DaL.cons (he.ex (e4.trans (Ex.new hp))) (DaL.cons (hf.ex (Ex.new hp)) DaL.nil)))⟩
theorem es_int {i : Int} (h : Ev te σ H (.int i)) : EvS te σ H (fun v H' => DaAt H' v (.int i)) := fun H1 e Q q => h H1 e _ fun H2 e2 => q _ H2 e2 da_int
/-- i = (a new list of data) -/
theorem q_asgLD {i : Nat} {tz : TS} {D : Ends} (h : EvLD te σ H ds) (k : ∀ p H1 xs, H p = none → Ex H H1 → H1 p = some (.lst xs) → DaL H1 xs ds → tz D (σ.set i (some (.ref p))) H1) : tSeq (tAsg te (gName i)) tz D σ H := h H (Ex.refl H) _ fun p xs H1 hp e h1 hd => k p H1 xs hp e h1 hd
theorem s_asgLD {i : Nat} {D : Ends} (h : EvLD te σ H ds) (k : ∀ p H1 xs, H p = none → Ex H H1 → H1 p = some (.lst xs) → DaL H1 xs ds → D.nx (σ.set i (some (.ref p))) H1) : tAsg te (gName i) D σ H := h H (Ex.refl H) _ fun p xs H1 hp e h1 hd => k p H1 xs hp e h1 hd
theorem s_retLD {D : Ends} (h : EvLD te σ H ds) (k : ∀ p H1 xs, H p = none → Ex H H1 → H1 p = some (.lst xs) → DaL H1 xs ds → D.rt (.ref p) H1) : tRet te D σ H := h H (Ex.refl H) _ fun p xs H1 hp e h1 hd => k p H1 xs hp e h1 hd

/-! ### comprehensions over data -/
/-- a turn's target, test and value: f d is the value, or none where the test says no -/
def LcTurn (g : TG) (tt : TT) (te : TE) (vs : List Nat) (σ : L2.St) (H : Hp) (ds : List PyData) (f : PyData → Option PyData) : Prop :=
  ∀ (x : V) (d : PyData) (H1 : Hp) (Q : L2.St → Hp → Prop), Ex H H1 → DaAt H1 x d → d ∈ ds → (∀ σ2, wipe σ2 vs = wipe σ vs → EvT tt σ2 H1 (f d).isSome → (∀ e, f d = some e → EvS te σ2 H1 (fun v H' => DaAt H' v e)) → Q σ2 H1) → g x (wipe σ vs) H1 Q
def CwD (H1 : Hp) (ds : List PyData) (f : PyData → Option PyData) (D : Addr) (i : Nat) (H' : Hp) : Prop := H1 D = none ∧ Ex H1 H' ∧ ∃ ys, H' D = some (.lst ys) ∧ DaL H' ys ((ds.take i).filterMap f)
theorem tk_lst {H : Hp} {D : Addr} {ys zs : List V} (h : H D = some (.lst ys)) : TK H (upd H D (.lst zs)) := fun a xs ha => by
  rw [upd_ne (fun e => by rw [e, h] at ha; cases ha)]
  exact ha
theorem filterMap_len (f : PyData → Option PyData) (l : List PyData) : (l.filterMap f).length ≤ l.length := List.length_filterMap_le f l
theorem cwD_turn {H1 H' : Hp} {g : TG} {tt : TT} {te : TE} {vs : List Nat} {f : PyData → Option PyData} {D : Addr} {i : Nat} {x : V} {d : PyData} (p : CwD H1 ds f D i H') (hi : i < 50000) (hd : ds[i]? = some d) (hx : DaAt H1 x d) (T : LcTurn g tt te vs σ H1 ds f) :
    g x (wipe σ vs) H' fun σ2 H2 => wipe σ2 vs = wipe σ vs ∧ tt σ2 H2 fun b H3 => if b = true then te σ2 H3 fun y H4 => ∃ acc, H4 D = some (.lst acc) ∧ acc.length < sizeLine ∧ CwD H1 ds f D (i + 1) (upd H4 D (.lst (acc ++ [y]))) else CwD H1 ds f D (i + 1) H3 := by
  obtain ⟨p1, p2, ys, p3, p4⟩ := p
  have len : ys.length ≤ i := by
    rw [p4.length]
    exact Nat.le_trans (filterMap_len _ _) (by rw [List.length_take]; omega)
  refine T x d H' _ p2 (hx.ex p2) (List.mem_of_getElem? hd) fun σ2 hw ht he => ⟨hw, ht H' (Ex.refl H') _ fun H3 e3 => ?_⟩
  cases e : f d with
  | none =>
    rw [Option.isSome_none, if_neg Bool.false_ne_true]
    refine ⟨p1, p2.trans e3, ys, e3 _ _ p3, ?_⟩
    rw [List.take_add_one, hd, List.filterMap_append]
    simp only [Option.toList_some, List.filterMap_cons, e, List.filterMap_nil, List.append_nil]
    exact p4.ex e3
  | some z =>
    rw [Option.isSome_some, if_pos rfl]
    refine he z e H3 e3 _ fun y H4 e4 hy => ⟨ys, e4 _ _ (e3 _ _ p3), sz_lt (by omega), p1, Ex.mut ((p2.trans e3).trans e4) p1, ys ++ [y], upd_same, ?_⟩
    have k := tk_lst (zs := ys ++ [y]) (e4 _ _ (e3 _ _ p3))
    rw [List.take_add_one, hd, List.filterMap_append]
    simp only [Option.toList_some, List.filterMap_cons, e, List.filterMap_nil]
    exact DaL.snoc ((p4.ex (e3.trans e4)).keep k) (hy.keep k)
/-- [e for .. in a list if ..] -/
theorem eld_lc {tl : TE} {a : Addr} {xs : List V} {g : TG} {tt : TT} {vs : List Nat} (f : PyData → Option PyData) (h : Ev tl σ H (.ref a)) (hx : SqL K H a xs) (hd : DaL H xs ds) (hz : ds.length ≤ 40000) (T : LcTurn g tt te vs σ H ds f) :
    EvLD (tLc (iList K tl) g tt te vs) σ H (ds.filterMap f) := fun H0 e Q q => h H0 e _ fun H1 e1 => ⟨a, rfl, ⟨xs, ex_l (e.trans e1) hx⟩, fun D hD =>
  lc_list (xs := xs) (CwD H1 ds f D) ⟨hD, Ex.new hD, [], upd_same, by rw [List.take_zero]; exact DaL.nil⟩ (fun i H' _ p => ex_l ((e.trans e1).trans p.2.1) hx) (fun i x H' hi p => by
    obtain ⟨d, h1, h2⟩ := hd.got hi
    have := (List.getElem?_eq_some_iff.mp h1).1
    exact cwD_turn p (by omega) h1 (h2.ex (e.trans e1)) fun x d H2 Q2 e2 => T x d H2 Q2 ((e.trans e1).trans e2))
    (fun H' p => by
      obtain ⟨p1, p2, ys, p3, p4⟩ := p
      rw [List.take_of_length_le (by rw [hd.length]; exact Nat.le_refl _)] at p4
      exact q D ys H' (fresh_back e1 p1) (e1.trans p2) p3 p4)⟩
/-- .. over a tuple -/
theorem eld_lcT {tl : TE} {a : Addr} {xs : List V} {g : TG} {tt : TT} {vs : List Nat} (f : PyData → Option PyData) (h : Ev tl σ H (.ref a)) (hx : SqT K H a xs) (hd : DaL H xs ds) (hz : ds.length ≤ 40000) (T : LcTurn g tt te vs σ H ds f) :
    EvLD (tLc (iTup K tl) g tt te vs) σ H (ds.filterMap f) := fun H0 e Q q => h H0 e _ fun H1 e1 => ⟨a, rfl, ⟨xs, ex_t (e.trans e1) hx⟩, fun D hD =>
  lc_tup (xs := xs) (CwD H1 ds f D) ⟨hD, Ex.new hD, [], upd_same, by rw [List.take_zero]; exact DaL.nil⟩ (fun i H' _ p => ex_t ((e.trans e1).trans p.2.1) hx) (fun i x H' hi p => by
    obtain ⟨d, h1, h2⟩ := hd.got hi
    have := (List.getElem?_eq_some_iff.mp h1).1
    exact cwD_turn p (by omega) h1 (h2.ex (e.trans e1)) fun x d H2 Q2 e2 => T x d H2 Q2 ((e.trans e1).trans e2))
    (fun H' p => by
      obtain ⟨p1, p2, ys, p3, p4⟩ := p
      rw [List.take_of_length_le (by rw [hd.length]; exact Nat.le_refl _)] at p4
      exact q D ys H' (fresh_back e1 p1) (e1.trans p2) p3 p4)⟩

/-! ### a set of whole numbers by a comprehension -/
/-- a turn: f d is the number, or none where the test says no -/
def ScTurn (g : TG) (tt : TT) (te : TE) (vs : List Nat) (σ : L2.St) (H : Hp) (ds : List PyData) (f : PyData → Option Int) : Prop :=
  ∀ (x : V) (d : PyData) (H1 : Hp) (Q : L2.St → Hp → Prop), Ex H H1 → DaAt H1 x d → d ∈ ds → (∀ σ2, wipe σ2 vs = wipe σ vs → EvT tt σ2 H1 (f d).isSome → (∀ k, f d = some k → Ev te σ2 H1 (.int k)) → Q σ2 H1) → g x (wipe σ vs) H1 Q
def CwS (w : World) (H1 : Hp) (ds : List PyData) (f : PyData → Option Int) (D : Addr) (i : Nat) (H' : Hp) : Prop := H1 D = none ∧ Ex H1 H' ∧ ∃ (S : Int → Bool) (n : Nat), H' D = some (SetO w D S n) ∧ n ≤ i ∧ ∀ k, S k = decide (k ∈ (ds.take i).filterMap f)
theorem cwS_turn {w : World} {H1 H' : Hp} {g : TG} {tt : TT} {te : TE} {vs : List Nat} {f : PyData → Option Int} {D : Addr} {i : Nat} {x : V} {d : PyData} (p : CwS w H1 ds f D i H') (hi : i < 1000) (hd : ds[i]? = some d) (hx : DaAt H1 x d) (T : ScTurn g tt te vs σ H1 ds f) :
    g x (wipe σ vs) H' fun σ2 H2 => wipe σ2 vs = wipe σ vs ∧ tt σ2 H2 fun b H3 => if b = true then te σ2 H3 fun y H4 => ∃ (k : Int) (S : Int → Bool) (n : Nat), y = .int k ∧ H4 D = some (SetO w D S n) ∧ n + 1 < scanBound ∧ CwS w H1 ds f D (i + 1) (upd H4 D (SetO w D (fun j => S j || decide (j = k)) (if S k = true then n else n + 1))) else CwS w H1 ds f D (i + 1) H3 := by
  obtain ⟨p1, p2, S, n, p3, p4, p5⟩ := p
  refine T x d H' _ p2 (hx.ex p2) (List.mem_of_getElem? hd) fun σ2 hw ht he => ⟨hw, ht H' (Ex.refl H') _ fun H3 e3 => ?_⟩
  cases e : f d with
  | none =>
    rw [Option.isSome_none, if_neg Bool.false_ne_true]
    refine ⟨p1, p2.trans e3, S, n, e3 _ _ p3, by omega, fun k => ?_⟩
    rw [List.take_add_one, hd, List.filterMap_append]
    simp only [Option.toList_some, List.filterMap_cons, e, List.filterMap_nil, List.append_nil]
    exact p5 k
  | some z =>
    rw [Option.isSome_some, if_pos rfl]
    refine he z e H3 e3 _ fun H4 e4 => ⟨z, S, n, rfl, e4 _ _ (e3 _ _ p3), by unfold scanBound; omega, p1, Ex.mut ((p2.trans e3).trans e4) p1, _, _, upd_same, by split <;> omega, fun k => ?_⟩
    rw [List.take_add_one, hd, List.filterMap_append]
    simp only [Option.toList_some, List.filterMap_cons, e, List.filterMap_nil, p5 k, List.mem_append, List.mem_singleton]
    by_cases h1 : k ∈ List.filterMap f (List.take i ds) <;> by_cases h2 : k = z <;> simp [h1, h2]
/-- the number of unlike ones -/
def dd : List Int → List Int
  | [] => []
  | x :: xs => if x ∈ xs then dd xs else x :: dd xs
theorem mem_dd {k : Int} : ∀ {ns : List Int}, k ∈ dd ns ↔ k ∈ ns
  | [] => by simp [dd]
  | x :: xs => by
    have ih := mem_dd (k := k) (ns := xs)
    unfold dd
    split
    · rename_i h
      rw [ih, List.mem_cons]
      exact ⟨.inr, fun z => z.elim (fun e => e ▸ h) id⟩
    · rw [List.mem_cons, List.mem_cons, ih]
theorem nodup_dd : ∀ ns : List Int, (dd ns).Nodup
  | [] => by simp [dd]
  | x :: xs => by
    unfold dd
    split
    · exact nodup_dd xs
    · rename_i h
      exact List.nodup_cons.mpr ⟨fun z => h (mem_dd.mp z), nodup_dd xs⟩
def cnt (ns : List Int) : Nat := (dd ns).length
theorem nodup_same {a b : List Int} (ha : a.Nodup) (hb : b.Nodup) (h : ∀ k, k ∈ a ↔ k ∈ b) : a.length = b.length := (len_nodup hb fun k => h k).mpr ha |>.symm
theorem cnt_of {ks ns : List Int} (hk : ks.Nodup) (h : ∀ k, k ∈ ks ↔ k ∈ ns) : ks.length = cnt ns := by
  exact nodup_same hk (nodup_dd ns) fun k => (h k).trans mem_dd.symm
/-- len({e for .. in a list if ..}) -/
theorem ev_lenSci {w : World} {tl : TE} {a : Addr} {xs : List V} {g : TG} {tt : TT} {vs : List Nat} (f : PyData → Option Int) (h : Ev tl σ H (.ref a)) (hx : SqL K H a xs) (hd : DaL H xs ds) (hz : ds.length ≤ 500) (T : ScTurn g tt te vs σ H ds f) :
    Ev (tCB (rLenSO w) (tCons (tSci w (iList K tl) g tt te vs) tNil)) σ H (.int (cnt (ds.filterMap f) : Nat)) := fun H0 e Q q => h H0 e _ fun H1 e1 => ⟨a, rfl, ⟨xs, ex_l (e.trans e1) hx⟩, fun D hD => by
  refine ⟨fun i m H' => m = xs.length - i ∧ i ≤ xs.length ∧ CwS w H1 ds f D i H', ⟨xs.length, by simp, Nat.zero_le _, hD, Ex.new hD, _, _, upd_same, Nat.le_refl _, fun k => by simp⟩, ?_⟩
  rintro i m H' ⟨rfl, hi, p⟩
  have hl := hd.length
  have hq : SqL K H' a xs := ex_l ((e.trans e1).trans p.2.1) hx
  by_cases hlt : i < xs.length
  · refine .inr ⟨⟨xs, xs[i], hq, by simp [hlt]⟩, fun H2 => CwS w H1 ds f D (i + 1) H2, fun H2 p2 => ⟨xs.length - (i + 1), by omega, rfl, hlt, p2⟩, fun x H2 y => ?_⟩
    obtain ⟨e2, y⟩ := y
    subst e2
    obtain ⟨d, h1, h2⟩ := hd.got (y xs hq)
    exact cwS_turn p (by omega) h1 (h2.ex (e.trans e1)) fun x d H2 Q2 e2 => T x d H2 Q2 ((e.trans e1).trans e2)
  · have ei : i = xs.length := by omega
    subst ei
    obtain ⟨p1, p2, S, n, p3, p4, p5⟩ := p
    refine .inl ⟨⟨xs, hq, Nat.le_refl _⟩, D, S, n, rfl, p3, by omega, fun ks hk hm hn => ?_⟩
    rw [List.take_of_length_le (by omega)] at p5
    rw [← hn, cnt_of hk fun k => (hm k).trans (by rw [p5 k, decide_eq_true_eq])]
    exact q H' (e1.trans p2)⟩
end
end FsD

set_option Elab.async false
set_option linter.all false
set_option maxRecDepth 100000
set_option maxHeartbeats 4000000
/-! min of a list of data -/
namespace FsD
open PySem PySem.Spec PyProof.Rows L2 Evl FsE FsV
theorem min_mem {d : PyData} : ∀ {ds : List PyData}, W.minD d ds ∈ d :: ds := by
  intro ds
  induction ds generalizing d with
  | nil => exact List.mem_singleton.mpr rfl
  | cons y ds ih =>
    unfold W.minD
    rw [List.foldl_cons]
    by_cases h : W.dataLt y d = true
    · rw [if_pos h]
      have := ih (d := y)
      exact List.mem_cons_of_mem _ this
    · rw [if_neg h]
      rcases List.mem_cons.mp (ih (d := d)) with e | e
      · exact List.mem_cons.mpr (.inl e)
      · exact List.mem_cons_of_mem _ (List.mem_cons_of_mem _ e)
def rMinDa : List V → Hp → VK → Prop := fun vs H Q => ∃ (a : Addr) (xs : List V) (d : PyData) (ds : List PyData), vs = [.ref a] ∧ H a = some (.lst xs) ∧ DaL H xs (d :: ds) ∧ (∀ x ∈ d :: ds, x.depth ≤ 30 ∧ x ≠ .none) ∧ (∀ x ∈ d :: ds, ∀ y ∈ d :: ds, W.alike x y = true) ∧ ∀ v, DaAt H v (W.minD d ds) → Q v H
theorem dal_reads {X : Cx} {pins : List (Addr × Obj)} {σ : L2.St} {H : Hp} {s : Shared} (I : Inv X pins σ H s) : ∀ {ds : List PyData} {xs : List V} {us : List Value}, DaL H xs ds → Vals xs us → ∃ as, ReadsAll s.heap us ds as
  | [], xs, us, h, r => by
    unfold DaL at h
    subst h
    cases r
    exact ⟨[], .nil⟩
  | d :: ds, xs, us, h, r => by
    unfold DaL at h
    obtain ⟨v, vs, rfl, h1, h2⟩ := h
    cases r with
    | cons r1 r2 =>
      obtain ⟨as, z1⟩ := Dp.reads I d v _ (dp_da h1) r1
      obtain ⟨bs, z2⟩ := dal_reads I h2 r2
      exact ⟨as ++ bs, .cons z1 z2⟩
theorem cr_minDa {X : Cx} (hc : X.calm = true) (hu : X.A.units + 64 < cLine) : CallR X (.builtin "min") rMinDa := by
  intro pins s σ H vs us Q I r h
  obtain ⟨a, xs, d, ds, rfl, ha, hd, hk, hal, q⟩ := h
  obtain ⟨u, rfl, ru⟩ := vals1 r
  obtain rfl : u = Value.ref a := ru
  obtain ⟨hz, its, n, rv, ho⟩ := I.hok a _ ha
  obtain ⟨as, hr⟩ := dal_reads I hd rv
  have hdep : PyData.depthAll (d :: ds) ≤ 30 := depthAll_le fun x hx => (hk x hx).1
  refine W.min_list_data (vs := its.toArray) (I.ok.hd hc) ⟨_, ho, rfl, n, rfl⟩ hr ⟨hal, fun x hx => (hk x hx).2⟩ (by omega) fun i v h' tk bs hv hread kp => ?_
  have hv' : its[i]? = some v := by simpa using hv
  have hi : i < xs.length := by
    rw [rv.length]
    exact (List.getElem?_eq_some_iff.mp hv').1
  obtain ⟨x, hx⟩ : ∃ x, xs[i]? = some x := ⟨_, List.getElem?_eq_getElem hi⟩
  obtain ⟨v2, hv2, rx⟩ := rv.get hx
  rw [hv'] at hv2
  cases hv2
  obtain ⟨e, he, hxe⟩ := hd.got hx
  have I' : Inv X pins σ H { s with heap := h', toks := tk } := I.kept fun b o z => kp b o z
  obtain ⟨cs, r2⟩ := Dp.reads I' e x v (dp_da hxe) rx
  have same : e = W.minD d ds := W.alike_unique _ _ _ _ _ (hal e (List.mem_of_getElem? he) _ min_mem) r2 hread
  exact ⟨x, H, I', rx, q x (same ▸ hxe)⟩
end FsD

set_option Elab.async false
set_option linter.all false
set_option maxRecDepth 100000
set_option maxHeartbeats 2000000
/-! sorted(e, key=lambda row: (len(row), row)) of tuples of whole numbers -/
namespace FsG
open PySem PySem.Spec PyProof.Rows L2 PySem.W LamX

/-- the key of a row -/
def keyR (r : List Int) : PyData := .tuple [.int (r.length : Nat), .tuple (r.map PyData.int)]
/-- v is a tuple of these whole numbers, in the heap -/
def RowV (h : Heap) (v : Value) (r : List Int) : Prop := ∃ (a : Addr) (its : Array Value), v = .ref a ∧ IsTup h a its ∧ IntsAre its.toList r
theorem reads_ints {h : Heap} : ∀ {vs : List Value} {ns : List Int}, IntsAre vs ns → ReadsAll h vs (ns.map PyData.int) []
  | [], [], _ => .nil
  | v :: vs, n :: ns, hI => by
    obtain ⟨⟨t, e⟩, r⟩ : (∃ t, v = .int n t) ∧ IntsAre vs ns := by
      cases hI
      exact ⟨⟨_, rfl⟩, by assumption⟩
    subst e
    exact .cons (as := []) (bs := []) (.int n t) (reads_ints r)
  | [], _ :: _, hI => by cases hI
  | _ :: _, [], hI => by cases hI
theorem RowV.reads {h : Heap} {v : Value} {r : List Int} (x : RowV h v r) : Reads h v (.tuple (r.map PyData.int)) [] := by
  obtain ⟨a, its, rfl, ⟨o, ho, hc, n, hd⟩, hi⟩ := x
  exact .tuple ho hc hd (reads_ints hi)
theorem RowV.keep {h h' : Heap} {v : Value} {r : List Int} (k : ∀ b o, h.get? b = some o → h'.get? b = some o) (x : RowV h v r) : RowV h' v r := by
  obtain ⟨a, its, rfl, ⟨o, ho, q⟩, hi⟩ := x
  exact ⟨a, its, rfl, ⟨o, k _ _ ho, q⟩, hi⟩

/-- the lambda's text -/
structure LamR (qual : Str) (params : Arguments) (body : Expr) (scope : Scope) : Prop where
  kind : scope.kind = .function
  co : scope.isCoroutine = false
  gen : scope.isGenerator = false
  nocell : ∀ y ∈ scope.names, y.2 ≠ .cell
  nofree : ∀ y ∈ scope.names, y.2 ≠ .free
  text : ∃ (a : Str) (p1 p2 p3 p4 p5 : Pos) (x5 : Nat), body = .Tuple [.Call (.Name "len" p1) [.Name a p2] [] p3, .Name a p4] x5 p5 ∧ scope.names.lookup a = some .local ∧ scope.names.lookup ("len" : Str) = some .globalImplicit ∧ (a == ("__debug__" : Str)) = false ∧
    ∀ (pm ctv cv : Value) (v : Value), bindArgs (kla_fn "<lambda>" qual params body scope [] pm cv ctv) ⟨[v], []⟩ = pure [(a, v)]
section
variable {prog : Program} {w : World} {A : Around} {s1 : Shared} {f c' : Addr} {qual : Str} {params : Arguments} {body : Expr} {scope : Scope} {pm ctv v : Value} {r : List Int} {mg mb : Str → Option Value}
/-- the lambda is called -/
theorem lam_turn (L : LamR qual params body scope) (ho : s1.heap.get? f = some (kla_obj "<lambda>" qual params body scope [] pm c' ctv)) (hcd : s1.heap.CodeRec (.ref c') qual) (hroom : A.depth < recursionLimit) (lim : s1.heap.NoLimit)
    (hG : s1.heap.Ns mainGlobals mg) (hlen : mg "len" = none) (hB : s1.heap.Ns builtinsNs mb) (hb : mb "len" = some (.builtin "len")) (hv : RowV s1.heap v r) (hr : r.length ≤ sizeLine) :
    wpAny (model prog w) A (call (.ref f) [v]) (KeyPure (keyR r) s1) (fun _ _ => False) s1 := by
  obtain ⟨a, p1, p2, p3, p4, p5, x5, eb, ha, hl, hdb, hbind⟩ := L.text
  have rc : codeAny (model prog w) A (.call (.ref f) ⟨[v], []⟩) (fun r' s' => ∃ u, r' = .ok (.ret u) ∧ KeyPure (keyR r) s1 u s') s1 := by
    refine kla_callFunE hroom ho rfl L.co L.gen rfl hcd ?_
    rw [hbind]
    refine wpAny_pure (wpAny_newFunctionEnv L.nocell (fun y hy => ?_) (fun h₁ hns hsb => ⟨lim.fresh _ hsb, ?_⟩) L.kind)
    · rw [List.mem_singleton.mp hy]
      exact ha
    show codeAny _ _ (.expr body (envX qual scope s1.heap.objs.size f (.ref c') [])) _ _
    have kp : ∀ b o, s1.heap.get? b = some o → h₁.get? b = some o := fun b o e => hsb.extBut b o (Nat.ne_of_lt (Heap.lt_size e)) (Heap.get?_push_of_some _ e)
    have hG1 : h₁.Ns mainGlobals mg := hG.keeps kp
    have hB1 : h₁.Ns builtinsNs mb := hB.keeps kp
    have hrow : (envX qual scope s1.heap.objs.size f (.ref c') []).kindOf a = some .local := ha
    have hlk : (envX qual scope s1.heap.objs.size f (.ref c') []).kindOf ("len" : Str) = some .globalImplicit := hl
    have hm : ([(a, v)] : List (Str × Value)).reverse.lookup a = some v := by simp
    refine kla_codeExpr ?_
    rw [eb]
    obtain ⟨t, its, rfl, ht, hi⟩ := hv
    have ht1 : IsTup h₁ t its := by
      obtain ⟨o, e, q⟩ := ht
      exact ⟨o, kp _ _ e, q⟩
    have hsz : its.size = r.length := by
      have := hi.length
      rw [Array.length_toList] at this
      exact this
    refine wpAny_Tuple_spliced ?_
    show wpAny _ _ (spliced ((false, eval (.Call (.Name "len" p1) [.Name a p2] [] p3) _) :: (false, eval (.Name a p4) _) :: [])) _ _ _
    refine Calls.spliced_cons ?_
    refine wpAny_Call_Name_kw (Calls.Name_function_global L.kind hlk (Calls.loadGlobal_builtin hG1 hlen hB1 hb ?_) (by decide))
    refine PyProof.Rows.callWith_builtin1 ?_ rfl rfl
    show wpAny _ _ (spliced ((false, eval (.Name a p2) _) :: [])) _ _ _
    refine Calls.spliced_cons (wpAny_Name (wpAny_loadName_local L.kind hrow hns hm ?_) hdb)
    refine Calls.spliced_nil ?_
    refine len_tuple ht1 (by have := line63; omega) ?_
    refine Calls.spliced_cons (wpAny_Name (wpAny_loadName_local L.kind hrow hns hm ?_) hdb)
    refine Calls.spliced_nil ⟨(show 2 ≤ sizeLine by decide), _, rfl, _, _, rfl, fun b o e => Heap.get?_push_of_some _ (kp b o e), ?_⟩
    unfold keyR
    rw [← hsz]
    refine .tuple (Heap.get?_push_size _ rfl) rfl rfl (.cons (as := []) (bs := []) (.int _ _) (.cons (as := []) (bs := []) ?_ .nil))
    exact (RowV.reads (h := h₁.push _) ⟨t, its, rfl, (by obtain ⟨o, e, q⟩ := ht1; exact ⟨o, Heap.get?_push_of_some _ e, q⟩), hi⟩)
  refine wpAny_call (codeAny_mono rc fun r' s' hq => ?_)
  obtain ⟨u, rfl, q⟩ := hq
  exact q
end
theorem alike_ints : ∀ xs ys : List Int, alikeAll (xs.map PyData.int) (ys.map PyData.int) = true
  | [], _ => by simp [alikeAll]
  | _ :: _, [] => by simp [alikeAll]
  | x :: xs, y :: ys => by
    have h := alike_ints xs ys
    simp only [List.map_cons, alikeAll, alike, Bool.true_and]
    exact h
theorem alike_keyR (r q : List Int) : alike (keyR r) (keyR q) = true := by
  unfold keyR
  simp only [alike, alikeAll, Bool.true_and, Bool.and_true]
  exact alike_ints r q
theorem depth_ints : ∀ xs : List Int, PyData.depthAll (xs.map PyData.int) ≤ 1
  | [] => by simp [PyData.depthAll]
  | x :: xs => by
    have h := depth_ints xs
    simp only [List.map_cons, PyData.depthAll, PyData.depth]
    omega
theorem depth_keyR (r : List Int) : (keyR r).depth ≤ 5 := by
  have h := depth_ints r
  unfold keyR
  simp only [PyData.depth, PyData.depthAll]
  omega
theorem each_of_vals : ∀ {xs : List V} {us : List Value}, Vals xs us → EachIs (fun u x => RelV x u) us xs
  | _, _, .nil => .nil
  | _, _, .cons r t => .cons r (each_of_vals t)
theorem vals_of_each : ∀ {us : List Value} {xs : List V}, EachIs (fun u x => RelV x u) us xs → Vals xs us
  | _, _, .nil => .nil
  | _, _, .cons r t => .cons r (vals_of_each t)
/-- the rows by their lengths, then themselves -/
def leR : List Int → List Int → Bool := dataLe false keyR
section
variable {X : Cx} {e : Expr} {te : TE} {T : List (Addr × Str)} {c P : Addr} {params : Arguments} {body : Expr} {scope : Scope} {lpos kpos p pos : Pos}
def tSortLR (T : List (Addr × Str)) (te : TE) : TE := fun σ H Q => te σ H fun x H1 => ∃ (l : Addr) (xs : List V) (rowf : V → List Int), x = .ref l ∧ H1 l = some (.lst xs) ∧ (∀ y ∈ xs, ∃ a, y = .ref a ∧ H1 a = some (.tup ((rowf y).map V.int))) ∧ Tabs T H1 ∧
  ∀ (H2 : Hp) (ys : List V) (q : Addr), ExtN H1 H2 → Tabs T H2 → ys.Perm xs → ys.map rowf = (xs.map rowf).mergeSort leR → H2 q = none → Q (.ref q) (upd H2 q (.lst ys))
theorem pe_sortLR (he : PE X e te) (hg : Gl X "sorted") (hm : X.mg "sorted" = none) (hlen : X.mg "len" = none) (TB : TabB X.base X.mg c P) (hcode : X.env.code = .ref c) (hmT : (P, X.env.qual ++ "<lambda>") ∈ T) (hu : ∀ p ∈ T, p.1 = P → p.2 = X.env.qual ++ "<lambda>")
    (L : LamR (X.env.qual ++ "<lambda>") params body scope) (hdef : defaultsOf params X.env = ([], [])) (hcl : cloFrom X.env.cells scope.names [] = []) (hr : Room 3 X.A)
    (hs : starEach [e] X.env = (false, eval e X.env) :: starEach [] X.env := by rfl) (hs2 : backTo pos (starEach [e] X.env) = (false, eval e X.env) :: backTo pos (starEach [] X.env) := by rfl) (hpl : (backTo pos (starEach [e] X.env)).any (·.1) = false := by rfl) :
    PE X (.Call (.Name "sorted" p) [e] [⟨some "key", .Lambda params body scope lpos, kpos⟩] pos) (tSortLR T te) := by
  refine ⟨fun pins s σ H Q I h => ?_⟩
  refine wpAny_Call_Name_kw (ld_blt I hg hm boot_sorted ?_ (by decide) (by decide))
  refine PyProof.Rows.callWith_kw (thn ((pa_cons he pa_nil hs).run pos pins s σ H (fun vs H1 => match vs with
    | [x] => ∃ (l : Addr) (xs : List V) (rowf : V → List Int), x = .ref l ∧ H1 l = some (.lst xs) ∧ (∀ y ∈ xs, ∃ a, y = .ref a ∧ H1 a = some (.tup ((rowf y).map V.int))) ∧ Tabs T H1 ∧
        ∀ (H2 : Hp) (ys : List V) (q : Addr), ExtN H1 H2 → Tabs T H2 → ys.Perm xs → ys.map rowf = (xs.map rowf).mergeSort leR → H2 q = none → Q (.ref q) (upd H2 q (.lst ys))
    | _ => False) I h) fun us s1 ⟨vs, H1, I1, r1, q1⟩ => ?_) hs2 hpl rfl rfl
  obtain ⟨x, rfl⟩ : ∃ x, vs = [x] := by
    cases vs with
    | nil => exact q1.elim
    | cons x r =>
      cases r with
      | nil => exact ⟨x, rfl⟩
      | cons y r => exact q1.elim
  obtain ⟨l, xs, rowf, rfl, hl, hrow, hT, q⟩ := q1
  obtain ⟨u, rfl, ru⟩ := vals1 r1
  obtain rfl : u = Value.ref l := ru
  show wpAny _ _ (evalAll ((do let v ← eval (.Lambda params body scope lpos) X.env; standAt pos; pure v) :: [])) _ _ s1
  refine wpAny_evalAll_cons (wpAny_bind (lam_make2 I1 TB hcode hmT hu hT hdef (fun y hy e => absurd e (L.nofree y hy)) fun f c' pm ctv H2 s2 I2 eN T2 hf hfn hfr hco => wpAny_bind (wpAny_standAt (wpAny_pure ?_))))
  refine wpAny_evalAll_nil ?_
  show wpAny _ _ (call (.builtin "sorted") [.ref l] [(Str.ofString "key", .ref f)]) _ _ s2
  rw [hcl] at hf
  have hl2 : H2 l = some (.lst xs) := eN l _ hl (fun ps z => by cases z)
  have hrow2 : ∀ y ∈ xs, ∃ a, y = .ref a ∧ H2 a = some (.tup ((rowf y).map V.int)) := fun y hy => by
    obtain ⟨a, e1, e2⟩ := hrow y hy
    exact ⟨a, e1, eN a _ e2 (fun ps z => by cases z)⟩
  obtain ⟨hz, its, n, rv, hol⟩ := I2.hok l _ hl2
  obtain ⟨⟨oc, vs, t, hoc, hdc, hvc⟩, _, _⟩ := I2.hok c' _ hco
  obtain ⟨mb, hb1, hb2⟩ := I2.mod.blt
  have hru := hr.un
  have hrd := hr.dp
  refine sorted_key_data (β := V) (R := fun u x => RelV x u) (vs := its) (bs := xs) (b := false) (fun x => keyR (rowf x)) ⟨_, hol, rfl, n, rfl⟩ (each_of_vals rv) (fun d hd d' hd' => ?_) (.inl fun d hd => ?_) hz (fun x hx => ?_) (ksk_s1 _ _) (fun x => by unfold argsOk; kernel_rfl) (fun x => ksk_t1 _ _)
    (fun v x rx hx h tk kp => ?_) fun out c1 h' tk kp _ hq hlen' heach => ?_
  · obtain ⟨x, _, e1⟩ := List.mem_map.mp hd
    obtain ⟨x', _, e2⟩ := List.mem_map.mp hd'
    rw [← e1, ← e2]
    exact alike_keyR _ _
  · obtain ⟨x, _, e1⟩ := List.mem_map.mp hd
    exact ⟨_, _, e1.symm⟩
  · have := depth_keyR (rowf x)
    show X.A.units + 2 + (keyR (rowf x)).depth < _
    omega
  · obtain ⟨a, e1, e2⟩ := hrow2 x hx
    subst e1
    obtain rfl : v = Value.ref a := rx
    obtain ⟨hz3, its3, rv3, ht3⟩ := I2.hok a _ e2
    refine lam_turn (s1 := { s2 with heap := h, toks := tk }) L (kp _ _ hf) ⟨c', oc, vs, t, rfl, kp _ _ hoc, hdc, hvc⟩ ?_ (I2.nolimit.keeps kp) ((I2.mod.glob.keeps I2.bk).keeps kp) hlen ((hb1.keeps I2.bk).keeps kp) ((hb2 "len" (by decide)).trans PySem.boot_len) (RowV.keep kp ⟨a, its3.toArray, rfl, ht3, by simpa using ints_of_vals rv3⟩) (by simpa using hz3)
    show X.A.depth < _
    omega
  · have rv' := vals_of_each heach
    have hp : (xs.mergeSort (dataLe false fun x => keyR (rowf x))).Perm xs := List.mergeSort_perm _ _
    have hfr2 : H2 (s2.heap.objs.size + 1) = none := I2.hok.fresh (Nat.le_succ _)
    refine ⟨.ref (s2.heap.objs.size + 1), upd H2 (s2.heap.objs.size + 1) (.lst (xs.mergeSort (dataLe false fun x => keyR (rowf x)))), I2.laid (t' := tk) kp (Nat.le_succ _) ⟨by rw [hp.length_eq]; exact hz, out, c1, rv', hq⟩, rfl, ?_⟩
    exact q H2 _ _ eN T2 hp (List.map_mergeSort (s := leR) fun a _ b _ => rfl) hfr2
end
end FsG

set_option Elab.async false
set_option linter.all false
set_option maxRecDepth 100000
set_option maxHeartbeats 4000000
/-! x in a list of data; <= of data; len(set(ints)), exactly; lists made over what a call gives -/
namespace FsD
open PySem PySem.Spec PyProof.Rows L2 Evl FsE FsV FsG FsR
/-- x (not) in a list of data -/
def rInLD (K : PySem.W.Frag) (neg : Bool) : R2 := fun x y H Q => ∃ (d : PyData) (a : Addr) (xs : List V) (ds : List PyData), DaAt H x d ∧ y = .ref a ∧ SqL K H a xs ∧ DaL H xs ds ∧ Pk 20 d ∧ (∀ e ∈ ds, Pk 20 e) ∧ ∃ b : Bool, (b = true ↔ d ∈ ds) ∧ Q (.bl (Bool.xor neg b)) H
theorem any_mem {d : PyData} {ds : List PyData} {b : Bool} (hd : Pk 20 d) (he : ∀ e ∈ ds, Pk 20 e) (hb : b = true ↔ d ∈ ds) : (ds.any fun y => y.eqv d) = b := by
  rw [Bool.eq_iff_iff, hb, List.any_eq_true]
  exact ⟨fun ⟨y, hy, z⟩ => ((he y hy).eqv hd).mp z ▸ hy, fun h => ⟨d, h, (hd.eqv hd).mpr rfl⟩⟩
theorem pl_all {ds : List PyData} (h : ∀ e ∈ ds, Pk 20 e) : PyData.canLayAll0 ds = true := lay_plL ds (plL_iff.mpr fun d hd => (h d hd).1)
section
variable {X : Cx}
theorem op_inLD (hu : X.A.units + 64 < cLine) : OpR X (compareOp .In) (rInLD X.K false) := by
  intro pins s σ H x y v u Q I rx ry h
  obtain ⟨d, a, xs, ds, hd, rfl, ha, hx, pd, pe, b, hb, q⟩ := h
  obtain ⟨as, r1⟩ := Dp.reads I d x v (dp_da hd) rx
  obtain ⟨bs, r2⟩ := Dp.reads I (.list ds) (.ref a) u (.lst ha (dp_dal hx)) ry
  refine SeqAt.in_list_reads r2 r1 (pl_all pe) (lay_pl d pd.1) ?_ ⟨.bl _, H, I, rfl, ?_⟩
  · have := pd.2
    have : min (PyData.depthAll ds) d.depth ≤ 20 := Nat.le_trans (Nat.min_le_right _ _) pd.2
    omega
  · rw [any_mem pd pe hb]
    simpa using q
theorem op_notInLD (hu : X.A.units + 64 < cLine) : OpR X (compareOp .NotIn) (rInLD X.K true) := by
  intro pins s σ H x y v u Q I rx ry h
  obtain ⟨d, a, xs, ds, hd, rfl, ha, hx, pd, pe, b, hb, q⟩ := h
  obtain ⟨as, r1⟩ := Dp.reads I d x v (dp_da hd) rx
  obtain ⟨bs, r2⟩ := Dp.reads I (.list ds) (.ref a) u (.lst ha (dp_dal hx)) ry
  refine SeqAt.notIn_list_reads r2 r1 (pl_all pe) (lay_pl d pd.1) ?_ ⟨.bl _, H, I, rfl, ?_⟩
  · have : min (PyData.depthAll ds) d.depth ≤ 20 := Nat.le_trans (Nat.min_le_right _ _) pd.2
    omega
  · rw [any_mem pd pe hb]
    simpa using q
/-- x <= y of data of one kind -/
def rLeD (K : PySem.W.Frag) : R2 := fun x y H Q => ∃ d e : PyData, DaAt H x d ∧ DaAt H y e ∧ W.alike d e = true ∧ d ≠ .none ∧ d.depth ≤ 20 ∧ Q (.bl (!W.dataLt e d)) H
theorem op_leD (hu : X.A.units + 64 < cLine) : OpR X (compareOp .LtE) (rLeD X.K) := by
  intro pins s σ H x y v u Q I rx ry h
  obtain ⟨d, e, hd, he, al, nn, dp, q⟩ := h
  obtain ⟨as, r1⟩ := Dp.reads I d x v (dp_da hd) rx
  obtain ⟨bs, r2⟩ := Dp.reads I e y u (dp_da he) ry
  have R := W.rcLe_alike d e X.A s v u as bs r1 r2 al nn (by have := Nat.min_le_left d.depth e.depth; omega)
  exact R X.prog X.w X.xe (EP X pins σ Q) ⟨.bl _, H, I, rfl, q⟩
end
/-- len(set(a list of whole numbers)) -/
def tLenSetN (K : PySem.W.Frag) (ta : TE) : TE := fun σ H Q => ta σ H fun x H1 => ∃ (l : Addr) (ns : List Int), x = .ref l ∧ SqL K H1 l (ns.map V.int) ∧ ns.length ≤ 1000 ∧ Q (.int (cnt ns : Nat)) H1
theorem pe_lenSetN {X : Cx} {a : Expr} {ta : TE} {p p2 q pos : Pos} (hg : Gl X "len") (hm : X.mg "len" = none) (hg2 : Gl X "set") (hm2 : X.mg "set" = none) (ha : PE X a ta) (hc : X.calm = true := by rfl)
    (na : starEach [a] X.env = (false, eval a X.env) :: starEach [] X.env := by rfl) : PE X (.Call (.Name "len" p) [.Call (.Name "set" p2) [a] [] q] [] pos) (tLenSetN X.K ta) := by
  refine ⟨fun pins s σ H Q I h => ?_⟩
  refine Call_ (ld_blt I hg hm boot_len ?_)
  refine PyProof.Rows.callWith_builtin1 (PyProof.Rows.args_cons ?_ rfl) rfl rfl
  refine Call_ (ld_blt I hg2 hm2 boot_set ?_)
  refine PyProof.Rows.callWith_type1 (PyProof.Rows.args_cons (thn (ha.run pins s σ H _ I h) fun v s1 ⟨x, H1, I1, r1, q1⟩ => PyProof.Rows.args_nil ?_) na) na rfl
  obtain ⟨l, ns, rfl, hq, hl, q1⟩ := q1
  cases r1
  obtain ⟨its, rv, pl, hz⟩ := I1.list hq
  have few : ns.length + 1 < scanBound := by
    unfold scanBound
    omega
  refine made_of ns (I1.ok.hd hc) pl.isList (by simpa using RZ.intsAre_vals rv) few fun g t c R hcn k => PyProof.Rows.args_nil ?_
  obtain ⟨o, es, ep, t', ho, hex, hd, _, hnd, hmem, _, hf, hn, _⟩ := R
  have I2 : Inv X pins σ H1 { s1 with heap := g, toks := t } := I1.kept fun b o e => k b o e
  have hc2 : c = cnt ns := by
    have h1 := cnt_of (ks := es.toList.map keyOf) (ns := ns) hnd fun k => by
      rw [← decide_eq_true_eq (p := k ∈ ns), hmem k]
    rw [List.length_map, Array.length_toList, hn] at h1
    exact h1
  exact call_len_set ho hex hd hf (by rw [hn] <;> omega) ⟨.int (c : Int), H1, I2.tok _, ⟨_, by rw [hn]⟩, by rw [hc2]; exact q1⟩
end FsD

set_option Elab.async false
set_option linter.all false
set_option maxRecDepth 100000
set_option maxHeartbeats 8000000
/-! logs in the heap; log_fits -/
namespace Fs
open PySem L2 Evl FsE FsC FsR FsK FsV FsD FsG
/-- a part: machine, turn, place, value; a meeting: channel, parts -/
abbrev Jp := Int × Int × Int × PyData
abbrev Jm := PyData × List Jp
def dJp (p : Jp) : PyData := .tuple [.int p.1, .int p.2.1, .int p.2.2.1, p.2.2.2]
def dJm (m : Jm) : PyData := .tuple [m.1, .tuple (m.2.map dJp)]
structure JmOk (m : Jm) : Prop where
  ch : Pk 4 m.1
  few : m.2.length ≤ 6
  vals : ∀ p ∈ m.2, Pk 4 p.2.2.2
theorem pk_jp {p : Jp} (h : Pk 4 p.2.2.2) : Pk 5 (dJp p) := Pk.tup fun d hd => by
  simp only [List.mem_cons, List.not_mem_nil, or_false] at hd
  rcases hd with rfl | rfl | rfl | rfl
  · exact Pk.int
  · exact Pk.int
  · exact Pk.int
  · exact h
theorem pk_jm {m : Jm} (h : JmOk m) : Pk 7 (dJm m) := Pk.tup fun d hd => by
  simp only [List.mem_cons, List.not_mem_nil, or_false] at hd
  rcases hd with rfl | rfl
  · exact h.ch.mono (by decide)
  · refine Pk.tup fun e he => ?_
    obtain ⟨p, hp, rfl⟩ := List.mem_map.mp he
    exact pk_jp (h.vals p hp)
theorem jp_inj {p q : Jp} (h : dJp p = dJp q) : p = q := by
  obtain ⟨a, b, c, d⟩ := p
  obtain ⟨a', b', c', d'⟩ := q
  unfold dJp at h
  simp only [PyData.tuple.injEq, List.cons.injEq, PyData.int.injEq, and_true] at h
  obtain ⟨rfl, rfl, rfl, rfl⟩ := h
  rfl
theorem jps_inj : ∀ {ps qs : List Jp}, ps.map dJp = qs.map dJp → ps = qs
  | [], [], _ => rfl
  | [], _ :: _, h => by simp at h
  | _ :: _, [], h => by simp at h
  | p :: ps, q :: qs, h => by
    simp only [List.map_cons, List.cons.injEq] at h
    rw [jp_inj h.1, jps_inj h.2]
theorem jm_inj {m n : Jm} (h : dJm m = dJm n) : m = n := by
  obtain ⟨c, ps⟩ := m
  obtain ⟨c', ps'⟩ := n
  unfold dJm at h
  simp only [PyData.tuple.injEq, List.cons.injEq, and_true] at h
  obtain ⟨rfl, h2⟩ := h
  rw [jps_inj h2]
/-- as == of the program sees two meetings -/
def eqJ (m n : Jm) : Bool := (dJm m).eqv (dJm n)
theorem eqJ_iff {m n : Jm} (hm : JmOk m) (hn : JmOk n) : eqJ m n = true ↔ m = n := ((pk_jm hm).eqv (pk_jm hn)).trans ⟨jm_inj, fun h => by rw [h]⟩
theorem eqJ_self {m : Jm} (hm : JmOk m) : eqJ m m = true := (eqJ_iff hm hm).mpr rfl
theorem sh_jm {m : Jm} (h : JmOk m) : SeqAt.shaped (dJm m) = true := (pk_jm h).shaped (by decide)
/-- a log at a value, the logs at an address -/
def LgAt (H : Hp) (v : V) (l : List Jm) : Prop := ∃ a xs, v = .ref a ∧ H a = some (.lst xs) ∧ DaL H xs (l.map dJm)
theorem LgAt.ex {H H' : Hp} (e : Ex H H') {v : V} {l : List Jm} (h : LgAt H v l) : LgAt H' v l := by
  obtain ⟨a, xs, h1, h2, h3⟩ := h
  exact ⟨a, xs, h1, e _ _ h2, h3.ex e⟩
def LgsAt (H : Hp) (L : Addr) (ls : List (List Jm)) : Prop := ∃ as, H L = some (.lst as) ∧ LsA LgAt H as ls
theorem LgsAt.ex {H H' : Hp} (e : Ex H H') {L : Addr} {ls : List (List Jm)} (h : LgsAt H L ls) : LgsAt H' L ls := by
  obtain ⟨as, h1, h2⟩ := h
  exact ⟨as, e _ _ h1, h2.imp fun _ _ z => z.ex e⟩
structure LsOk (ls : List (List Jm)) : Prop where
  few : ls.length ≤ 10
  len : ∀ l ∈ ls, l.length ≤ 20
  ok : ∀ l ∈ ls, ∀ m ∈ l, JmOk m
/-- a meeting at a value, taken apart -/
theorem jm_at {H : Hp} {v : V} {m : Jm} (h : DaAt H v (dJm m)) : ∃ (a p : Addr) (c : V) (ps : List V), v = .ref a ∧ H a = some (.tup [c, .ref p]) ∧ H p = some (.tup ps) ∧ DaAt H c m.1 ∧ DaL H ps (m.2.map dJp) := by
  obtain ⟨a, xs, rfl, h1, h2⟩ := DaAt.tup h
  unfold DaL at h2
  obtain ⟨c, r, rfl, hc, h3⟩ := h2
  unfold DaL at h3
  obtain ⟨q, r2, rfl, hq, h4⟩ := h3
  unfold DaL at h4
  subst h4
  obtain ⟨p, ps, rfl, h5, h6⟩ := DaAt.tup hq
  exact ⟨a, p, c, ps, rfl, h1, h5, hc, h6⟩
theorem jp_at {H : Hp} {v : V} {p : Jp} (h : DaAt H v (dJp p)) : ∃ (q : Addr) (u : V), v = .ref q ∧ H q = some (.tup [.int p.1, .int p.2.1, .int p.2.2.1, u]) ∧ DaAt H u p.2.2.2 := by
  obtain ⟨a, xs, rfl, h1, h2⟩ := DaAt.tup h
  unfold DaL at h2
  obtain ⟨c, r, rfl, hc, h3⟩ := h2
  unfold DaL at h3
  obtain ⟨c2, r2, rfl, hc2, h4⟩ := h3
  unfold DaL at h4
  obtain ⟨c3, r3, rfl, hc3, h5⟩ := h4
  unfold DaL at h5
  obtain ⟨c4, r4, rfl, hc4, h6⟩ := h5
  unfold DaL at h6
  subst h6
  exact ⟨a, c4, rfl, by rw [h1, hc.int, hc2.int, hc3.int], hc4⟩
theorem lgs_get {H : Hp} {as : List V} {ls : List (List Jm)} {i : Nat} {l : List Jm} (h : LsA LgAt H as ls) (hl : ls[i]? = some l) : ∃ a xs, as[i]? = some (.ref a) ∧ H a = some (.lst xs) ∧ DaL H xs (l.map dJm) := by
  have hn := h.length
  have hi : i < as.length := by have := (List.getElem?_eq_some_iff.mp hl).1; omega
  obtain ⟨v, l2, h1, h2, a, xs, rfl, h3, h4⟩ := LsA.at_ h hi
  rw [hl] at h2
  cases h2
  exact ⟨a, xs, h1, h3, h4⟩
/-- does a meeting stand in the log at this turn (or just behind its end) -/
def fitsB (l : List Jm) (t : Int) (m : Jm) : Bool := decide (t = (l.length : Int)) || ((decide (0 ≤ t) && decide (t < (l.length : Int))) && (match l[t.toNat]? with
  | some x => eqJ x m
  | none => false))
section
variable {P : Program} {w : World} {K : PySem.W.Frag} {mg : Str → Option Value} {base : Heap}
def spFit : Sp := fun vs H Q _ => ∃ (a : Addr) (xs : List V) (l : List Jm) (t : Int) (v : V) (m : Jm), vs = [.ref a, .int t, v] ∧ H a = some (.lst xs) ∧ DaL H xs (l.map dJm) ∧ DaAt H v (dJm m) ∧ (∀ x ∈ l, JmOk x) ∧ JmOk m ∧ RetV (.bl (fitsB l t m)) H Q
abbrev nsFit : List Str := ["log", "turn", "meeting"]
theorem scFit : FnScope nsFit ["log", "turn", "meeting"] (defScope (topS 18)) := ⟨rfl, rfl, rfl, by decide +kernel, rfl, by decide +kernel, by decide +kernel⟩
theorem ok_fit {f : Addr} {fd : FuncData} (F : Fun K "log_fits" "log_fits" (topS 18) f fd) (T : RunT K mg) (GX : CalX P w K mg base CX0 2 "is_index" spIndex) : FnOk P w K mg base CX0 3 f fd ["log", "turn", "meeting"] spFit := by
  refine F.ok scFit (fun vs H Q E h => ?_) (fun cdv A outer s H vs Q E hr h => ?_)
  · obtain ⟨a, xs, l, t, v, m, rfl, _⟩ := h
    rfl
  · obtain ⟨a, xs, l, t, v, m, rfl, ha, hx, hv, hl, hm, q⟩ := h
    have lx := hx.length
    rw [List.length_map] at lx
    refine ⟨_, pss_one (ps_ret (pe_or (pe_cmpR op_eq (pv 1) (pe_callB call_len_seq (by rfl) T.len PySem.boot_len (pa_cons (pv 0) pa_nil)) (nomark _)) (pe_one (pe_and (pe_cx (E := fun _ => E0) GX hr (by decide) (by rfl) at0 (pa_cons (pv 1) (pa_cons (pe_callB call_len_seq (by rfl) T.len PySem.boot_len (pa_cons (pv 0) pa_nil)) pa_nil)))
      (pe_one (pe_cmpR (op_eqD hr.units) (pe_ix ix_list (pv 0) (pv 1) (fun _ _ => rfl)) (pv 2) (nomark _))))))), ?_⟩
    have eln : ∀ {H9 : Hp}, Ex H H9 → ∀ {r : List V → Hp → VK → Prop}, (∀ H2 Q', Ex H9 H2 → Q' (.int ((xs.length : Nat) : Int)) H2 → r [.ref a] H2 Q') → Ev (tCB r (tCons (tVar 0) tNil)) [some (.ref a), some (.int t), some v] H9 (.int (l.length : Int)) := fun {H9} e9 {r} hr => ev_is (ev_cb (ea_cons (ev_var rfl) ea_nil) (fun H2 e2 Q' q' => hr H2 Q' e2 (q' H2 (Ex.refl H2)))) (by rw [lx])
    have eix : ∀ {H9 : Hp}, Ex H H9 → Ev (tCallS spIndex (fun _ => E0) (tCons (tVar 1) (tCons (tCB (fun xs H Q => ∃ p ys, xs = [V.ref p] ∧ (SqL K H p ys ∨ SqT K H p ys) ∧ Q (.int (ys.length : Nat)) H) (tCons (tVar 0) tNil)) tNil))) [some (.ref a), some (.int t), some v] H9 (.bl (decide (0 ≤ t) && decide (t < (l.length : Int)))) := fun {H9} e9 => ev_cx (ea_cons (ev_var rfl) (ea_cons (eln e9 fun H2 Q' e2 q' => ⟨a, xs, rfl, .inl (sq_of ((e9.trans e2) _ _ ha)), q'⟩) ea_nil)) (fun H2 e2 Q' q' E' => ⟨t, (l.length : Int), rfl, q'⟩)
    refine s_ret (v := .bl (fitsB l t m)) (ev_orV (a := decide (t = (l.length : Int))) (b := (decide (0 ≤ t) && decide (t < (l.length : Int))) && (match l[t.toNat]? with
      | some x => eqJ x m
      | none => false)) (ev_is (ev_op (x := .int t) (y := .int (l.length : Int)) (ev_var rfl) (eln (Ex.refl H) fun H2 Q' e2 q' => ⟨a, xs, rfl, .inl (sq_of (e2 _ _ ha)), q'⟩) (rv_eq rfl)) (by rw [show decide (V.int t = V.int (l.length : Int)) = decide (t = (l.length : Int)) from decide_eq_decide.mpr ⟨fun z => by injection z, fun z => by rw [z]⟩]))
      (fun _ => ev_andV (a := decide (0 ≤ t) && decide (t < (l.length : Int))) (eix (Ex.refl H)) (fun hb => ?_))) q
    obtain ⟨h0, h1⟩ := Bool.and_eq_true_iff.mp hb
    have h0 := of_decide_eq_true h0
    have h1 := of_decide_eq_true h1
    obtain ⟨n, rfl⟩ : ∃ n : Nat, t = (n : Int) := ⟨t.toNat, by omega⟩
    have hn : n < l.length := by omega
    have hln : l[n]? = some l[n] := List.getElem?_eq_getElem hn
    rw [show ((n : Int)).toNat = n from rfl, hln]
    obtain ⟨u, hu, hd⟩ := hx.get (i := n) (d := dJm l[n]) (by rw [List.getElem?_map, hln]; rfl)
    refine fun H2 e2 Q2 q2 => ev_op (x := .ref a) (y := .int (n : Int)) (ev_var rfl) (ev_var rfl) (rv_ixL (K := K) (sq_of ha) (atI_nat hu)) H2 e2 _ fun H3 e3 => ev_var (i := 2) rfl H3 (Ex.refl H3) _ fun H4 e4 => ⟨dJm l[n], dJm m, dp_da (hd.ex (e2.trans (e3.trans e4))), dp_da (hv.ex (e2.trans (e3.trans e4))), sh_jm (hl _ (List.getElem_mem hn)), sh_jm hm, q2 H4 (e3.trans e4)⟩
end
end Fs

set_option Elab.async false
set_option linter.all false
set_option maxRecDepth 100000
set_option maxHeartbeats 8000000
/-! check_entries -/
namespace Fs
open PySem L2 Evl FsE FsC FsR FsK FsV FsD FsG
/-- NoJoin -/
structure JnT (K : PySem.W.Frag) (mg : Str → Option Value) (CJ : Addr) : Prop where
  g : mg "NoJoin" = some (.ref CJ)
  q : PySem.W.excIn K CJ [.type "ValueError", .type "Exception", .type "BaseException", .type "object"] "ValueError.__new__" = true
  k : PySem.W.keepIn K (.ref CJ) = true
  s : PySem.W.subIn K (.ref CJ) (.type "BaseException") = some true
  t : PySem.W.typeIn K (.ref CJ) = some (.type "type")
  enum : mg "enumerate" = none
  set : mg "set" = none
  all : mg "all" = none
  min : mg "min" = none
def BadJ (CJ : Addr) (H : Hp) (E : XK) : Prop := ∀ H', Ex H H' → E (.ref CJ) none H'
theorem BadJ.ex {CJ : Addr} {H H' : Hp} {E : XK} (e : Ex H H') (h : BadJ CJ H E) : BadJ CJ H' E := fun H2 e2 => h H2 (e.trans e2)
def unJp : PyData → Option Jp
  | .tuple [.int a, .int b, .int c, d] => some (a, b, c, d)
  | _ => none
theorem un_jp (p : Jp) : unJp (dJp p) = some p := rfl
theorem fm_jp {fJ : Jp → Option PyData} : ∀ {ps : List Jp}, (ps.map dJp).filterMap (fun d => (unJp d).bind fJ) = ps.filterMap fJ
  | [] => rfl
  | p :: ps => by
    rw [List.map_cons, List.filterMap_cons, List.filterMap_cons, un_jp, fm_jp]
    rfl
theorem dalJ_ints {H : Hp} : ∀ {ns : List Int} {vs : List V}, DaL H vs (ns.map PyData.int) → vs = ns.map V.int
  | [], vs, h => by
    unfold DaL at h
    exact h
  | n :: ns, vs, h => by
    rw [List.map_cons] at h
    unfold DaL at h
    obtain ⟨v, ws, rfl, h1, h2⟩ := h
    rw [h1.int, dalJ_ints h2]
    rfl
theorem dp_ints {K : PySem.W.Frag} {H : Hp} : ∀ {ns : List Int}, DpAll K H (ns.map V.int) (ns.map PyData.int)
  | [] => .nil
  | n :: ns => .cons (.int n) dp_ints
theorem eqv_ints : ∀ {xs ys : List Int}, PyData.eqvAll (xs.map PyData.int) (ys.map PyData.int) = decide (xs = ys)
  | [], [] => by simp [PyData.eqvAll]
  | [], _ :: _ => by simp [PyData.eqvAll]
  | _ :: _, [] => by simp [PyData.eqvAll]
  | x :: xs, y :: ys => by
    have h := eqv_ints (xs := xs) (ys := ys)
    rw [List.map_cons, List.map_cons]
    unfold PyData.eqvAll
    rw [h]
    simp [PyData.eqv, List.cons.injEq]
    rfl
theorem lay_ints : ∀ {xs : List Int}, PyData.canLayAll0 (xs.map PyData.int) = true
  | [] => by simp [PyData.canLayAll0]
  | x :: xs => by
    have h := lay_ints (xs := xs)
    rw [List.map_cons]
    simp [PyData.canLayAll0, PyData.canLay0, h]
theorem dep_ints : ∀ {xs : List Int}, PyData.depthAll (xs.map PyData.int) ≤ 1
  | [] => by simp [PyData.depthAll]
  | x :: xs => by
    have h := dep_ints (xs := xs)
    rw [List.map_cons]
    simp only [PyData.depthAll, PyData.depth]
    omega
theorem sh_ints {xs : List Int} : SeqAt.shaped (.list (xs.map PyData.int)) = true := by
  have h := dep_ints (xs := xs)
  show (PyData.canLay0 _ && decide (PyData.depth _ ≤ 64)) = true
  rw [decide_eq_true (by simp only [PyData.depth]; omega)]
  simp [PyData.canLay0, lay_ints]
section
variable {σ : L2.St} {H : Hp} {te ta tb : TE} {tt : TT} {K : PySem.W.Frag}
/-- [e for machine, turn, place, value in parts if ..] -/
theorem eld_parts {tl : TE} {a : Addr} {xs : List V} {ps : List Jp} {i1 i2 i3 i4 : Nat} {vs : List Nat} (fJ : Jp → Option PyData) (h : Ev tl σ H (.ref a)) (hx : H a = some (.tup xs)) (hd : DaL H xs (ps.map dJp)) (hz : ps.length ≤ 1000)
    (hw : ∀ x1 x2 x3 x4, wipe (((((wipe σ vs).set i1 (some x1)).set i2 (some x2)).set i3 (some x3)).set i4 (some x4)) vs = wipe σ vs)
    (T : ∀ p ∈ ps, ∀ u H1, Ex H H1 → DaAt H1 u p.2.2.2 → EvT tt (((((wipe σ vs).set i1 (some (.int p.1))).set i2 (some (.int p.2.1))).set i3 (some (.int p.2.2.1))).set i4 (some u)) H1 (fJ p).isSome ∧
      ∀ e, fJ p = some e → EvS te (((((wipe σ vs).set i1 (some (.int p.1))).set i2 (some (.int p.2.1))).set i3 (some (.int p.2.2.1))).set i4 (some u)) H1 (fun v H' => DaAt H' v e)) :
    EvLD (tLc (iTup K tl) (gTup K 4 (gCons (gName i1) (gCons (gName i2) (gCons (gName i3) (gCons (gName i4) gNil))))) tt te vs) σ H (ps.filterMap fJ) := by
  rw [← fm_jp]
  refine eld_lcT (K := K) (fun d => (unJp d).bind fJ) h (st_of hx) hd (by rw [List.length_map]; omega) (fun x d H1 Q e1 hxd hdm k => ?_)
  obtain ⟨p, hp, rfl⟩ := List.mem_map.mp hdm
  obtain ⟨q, u, rfl, hq, hu⟩ := jp_at hxd
  obtain ⟨t1, t2⟩ := T p hp u H1 e1 hu
  refine ⟨q, _, rfl, st_of hq, rfl, _, _, rfl, _, _, rfl, _, _, rfl, _, _, rfl, rfl, k _ (hw _ _ _ _) t1 t2⟩
theorem el_ints {ns : List Int} (h : EvLD te σ H (ns.map PyData.int)) : EvL te σ H (ns.map V.int) := fun H1 e Q q => h H1 e _ fun a xs H2 ha e2 h2 hd => q a H2 ha e2 (by rw [h2, dalJ_ints hd])
/-- two lists of whole numbers differ -/
theorem ev_neInts {p : Addr} {xs ys : List Int} (ha : Ev ta σ H (.ref p)) (hp : H p = some (.lst (xs.map V.int))) (hb : EvL tb σ H (ys.map V.int)) : Ev (tOp (rNeD K) ta tb) σ H (.bl (!decide (xs = ys))) := fun H1 e Q q =>
  ha H1 e _ fun H2 e2 => hb H2 (e.trans e2) _ fun b H3 hb3 e3 h3 => ⟨.list (xs.map PyData.int), .list (ys.map PyData.int), .lst (sq_of ((e.trans (e2.trans e3)) _ _ hp)) dp_ints, .lst (sq_of h3) dp_ints, sh_ints, sh_ints, by
    rw [show PyData.eqv (.list (xs.map PyData.int)) (.list (ys.map PyData.int)) = decide (xs = ys) by simp [PyData.eqv, eqv_ints]]
    exact q H3 (e2.trans e3)⟩
theorem ev_lenSetI {p : Addr} {xs : List Int} (ha : Ev ta σ H (.ref p)) (hp : H p = some (.lst (xs.map V.int))) (hz : xs.length ≤ 1000) : Ev (tLenSetN K ta) σ H (.int (cnt xs : Nat)) := fun H1 e Q q =>
  ha H1 e _ fun H2 e2 => ⟨p, xs, rfl, sq_of ((e.trans e2) _ _ hp), hz, q H2 e2⟩
/-- for i, x in enumerate(a list) -/
theorem s_forE {ta : TA} {a : Addr} {xs : List V} {g : TG} {tu : TS} {D : Ends} (h : EvA ta σ H [.ref a]) (hx : SqL K H a xs) (Pv : Nat → L2.St → Hp → Prop) (h0 : ∀ H1, Ex H H1 → Pv 0 σ H1) (hl : ∀ i σ' H', i ≤ xs.length → Pv i σ' H' → SqL K H' a xs)
    (hs : ∀ i x T σ' H', xs[i]? = some x → Pv i σ' H' → H' T = none → g (.ref T) σ' (upd H' T (.tup [.int (i : Int), x])) fun σ2 H2 => tu { D with nx := Pv (i + 1), ct := Pv (i + 1), bk := D.nx } σ2 H2) (hd : ∀ σ' H', Pv xs.length σ' H' → D.nx σ' H') :
    tFor (iEnum K ta) g tu D σ H := h H (Ex.refl H) _ fun H1 e1 => ⟨a, xs, rfl, ex_l e1 hx, for_it (walk_enum (K := K) (xs := xs)) Pv (h0 H1 e1) hl (fun i x σ' H' H2 hi hp ⟨T, y1, y2, ev, hT, eH, h1, h2⟩ => by
      subst ev eH
      cases h1
      exact hs i y2 T σ' H' h2 hp hT) hd⟩
theorem q_forE {ta : TA} {a : Addr} {xs : List V} {g : TG} {tu tz : TS} {D : Ends} (h : EvA ta σ H [.ref a]) (hx : SqL K H a xs) (Pv : Nat → L2.St → Hp → Prop) (h0 : ∀ H1, Ex H H1 → Pv 0 σ H1) (hl : ∀ i σ' H', i ≤ xs.length → Pv i σ' H' → SqL K H' a xs)
    (hs : ∀ i x T σ' H', xs[i]? = some x → Pv i σ' H' → H' T = none → g (.ref T) σ' (upd H' T (.tup [.int (i : Int), x])) fun σ2 H2 => tu { D with nx := Pv (i + 1), ct := Pv (i + 1), bk := tz D } σ2 H2) (hd : ∀ σ' H', Pv xs.length σ' H' → tz D σ' H') :
    tSeq (tFor (iEnum K ta) g tu) tz D σ H := s_forE (D := { D with nx := tz D }) h hx Pv h0 hl hs hd
end
/-- an entry: its owner's turns, unlike machines -/
def entryB (i j : Nat) (m : Jm) : Bool := decide (m.2.filterMap (fun p => if p.1 = (i : Int) then some p.2.1 else none) = [(j : Int)]) && decide (cnt (m.2.map (·.1)) = m.2.length)
def EntOk (ls : List (List Jm)) : Prop := ∀ (i j : Nat) (l : List Jm) (m : Jm), ls[i]? = some l → l[j]? = some m → entryB i j m = true
theorem fm_machs {ps : List Jp} : ps.filterMap (fun p => some (PyData.int p.1)) = (ps.map (·.1)).map PyData.int := by
  rw [List.map_map, ← List.filterMap_eq_map]
  rfl
theorem fm_own {i : Int} : ∀ {ps : List Jp}, ps.filterMap (fun p => if p.1 = i then some (PyData.int p.2.1) else none) = (ps.filterMap (fun p => if p.1 = i then some p.2.1 else none)).map PyData.int
  | [] => rfl
  | p :: ps => by
    rw [List.filterMap_cons, List.filterMap_cons]
    by_cases h : p.1 = i
    · simp only [h, if_true]
      rw [fm_own]
      rfl
    · simp only [h, if_false]
      exact fm_own
section
variable {P : Program} {w : World} {K : PySem.W.Frag} {mg : Str → Option Value} {base : Heap} {CJ : Addr}
def spEnt (CJ : Addr) : Sp := fun vs H Q E => ∃ (L : Addr) (ls : List (List Jm)), vs = [.ref L] ∧ LgsAt H L ls ∧ LsOk ls ∧ (EntOk ls → RetV .non H Q) ∧ (¬ EntOk ls → BadJ CJ H E)
abbrev nsEnt : List Str := ["logs", "owner", "log", "at", "channel", "parts", "machines", "own_turns", "machine", "turn", "place", "value"]
theorem scEnt : FnScope nsEnt ["logs"] (defScope (topS 15)) := ⟨rfl, rfl, rfl, by decide +kernel, rfl, by decide +kernel, by decide +kernel⟩
abbrev ow4 : List (Str × Nat) := [("machine", 8), ("turn", 9), ("place", 10), ("value", 11)]
abbrev g4 (K : PySem.W.Frag) : TG := gTup K 4 (gCons (gName 8) (gCons (gName 9) (gCons (gName 10) (gCons (gName 11) gNil))))
theorem ok_ent {f : Addr} {fd : FuncData} (F : Fun K "check_entries" "check_entries" (topS 15) f fd) (T : RunT K mg) (J : JnT K mg CJ) : FnOk P w K mg base (L2.CX P w) 1 f fd ["logs"] (spEnt CJ) := by
  refine F.okX (k := 0) scEnt (fun vs H Q E h => ?_) (fun cdv A outer s H vs Q E hr h => ?_)
  · obtain ⟨L, ls, rfl, _⟩ := h
    rfl
  · obtain ⟨L, ls, rfl, hL, hok, q1, q2⟩ := h
    refine ⟨_, pss_one (ps_for (passes_of rfl) rfl (pi_enum (by rfl) J.enum (pa_cons (pv 0) pa_nil)) (pg_tup rfl (pgs_cons (pg_name (i := 1) scEnt.nd rfl (.inr rfl)) (pgs_cons (pg_name (i := 2) scEnt.nd rfl (.inl rfl)) pgs_nil)))
      (pss_one (ps_for (passes_of rfl) rfl (pi_enum (by rfl) J.enum (pa_cons (pv 2) pa_nil)) (pg_tup rfl (pgs_cons (pg_name (i := 3) scEnt.nd rfl (.inl rfl)) (pgs_cons (pg_tup rfl (pgs_cons (pg_name (i := 4) scEnt.nd rfl (.inl rfl)) (pgs_cons (pg_name (i := 5) scEnt.nd rfl (.inl rfl)) pgs_nil))) pgs_nil)))
        (pss_cons (ps_setLc (i := 6) (own := ow4) (g := g4 K) (tt := tYes) (te := tVar 8) rfl scEnt.nd rfl rfl (sw_true rfl rfl rfl (by decide +kernel)) (pi_tup (pv 5)) (blkOk_by (own := ow4) (N := nsEnt) (sc := defScope (topS 15)) (by decide +kernel))
          (fun _ _ _ _ _ => pg_tup rfl (pgs_cons (pg_name (i := 8) scEnt.nd rfl (.inl rfl)) (pgs_cons (pg_name (i := 9) scEnt.nd rfl (.inl rfl)) (pgs_cons (pg_name (i := 10) scEnt.nd rfl (.inl rfl)) (pgs_cons (pg_name (i := 11) scEnt.nd rfl (.inl rfl)) pgs_nil))))) (fun _ _ _ _ _ => pts_nil) (fun _ _ _ _ _ => pv 8))
        (pss_cons (ps_setLc (i := 7) (own := ow4) (g := g4 K) (tt := tTest (tOp rEq (tVar 8) (tVar 1))) (te := tVar 9) rfl scEnt.nd rfl rfl (sw_true rfl rfl rfl (by decide +kernel)) (pi_tup (pv 5)) (blkOk_by (own := ow4) (N := nsEnt) (sc := defScope (topS 15)) (by decide +kernel))
          (fun _ _ _ _ _ => pg_tup rfl (pgs_cons (pg_name (i := 8) scEnt.nd rfl (.inl rfl)) (pgs_cons (pg_name (i := 9) scEnt.nd rfl (.inl rfl)) (pgs_cons (pg_name (i := 10) scEnt.nd rfl (.inl rfl)) (pgs_cons (pg_name (i := 11) scEnt.nd rfl (.inl rfl)) pgs_nil))))) (fun _ _ _ _ _ => pts_one (pt_cmpR op_eq (pv 8) (pv 1) (nomark _))) (fun _ _ _ _ _ => pv 9))
        (pss_one (ps_if (PW.pt (pw_or (pt_cmpR (op_neD hr.units) (pv 7) (pe_lst (pa_cons (pv 3) pa_nil)) (nomark _)) (pw_or1 (pt_cmpR op_ne (pe_lenSetN (by rfl) T.len (by rfl) J.set (pv 6)) (pe_callB call_len_seq (by rfl) T.len PySem.boot_len (pa_cons (pv 6) pa_nil)) (nomark _)))))
          (pss_one (ps_raise (W := fun cls d _ H => E cls d H) rfl (takes_of rfl rfl rfl rfl) (pmk_own0 PySem.F.excBase_ValueError J.q J.g J.k (raises_own J.s J.t) (by rfl)))) pss_nil))))))), ?_⟩
    obtain ⟨as, hLa, hLs⟩ := hL
    have nA := hLs.length
    refine s_forE (K := K) (σ := [some (.ref L), none, none, none, none, none, none, none, none, none, none, none]) (ea_cons (ev_var (i := 0) rfl) ea_nil) (sq_of hLa) (fun i σ' H' => ∃ (v1 v2 v3 v4 v5 v6 v7 : Option V), σ' = [some (.ref L), v1, v2, v3, v4, v5, v6, v7, none, none, none, none] ∧ Ex H H' ∧ ∀ (i' j : Nat) (l : List Jm) (m : Jm), i' < i → ls[i']? = some l → l[j]? = some m → entryB i' j m = true)
      (fun H1 e1 => ⟨none, none, none, none, none, none, none, rfl, e1, fun _ _ _ _ hi _ _ => absurd hi (Nat.not_lt_zero _)⟩) (fun i σ' H' _ ⟨_, _, _, _, _, _, _, _, e, _⟩ => sq_of (e _ _ hLa)) (fun i x T' σ' H' hx ⟨v1, v2, v3, v4, v5, v6, v7, hσ, he, hall⟩ hT => ?_) (fun σ' H' ⟨v1, v2, v3, v4, v5, v6, v7, hσ, he, hall⟩ => ?_)
    · subst hσ
      have hi : i < as.length := (List.getElem?_eq_some_iff.mp hx).1
      have hli : ls[i]? = some ls[i] := List.getElem?_eq_getElem (by omega)
      obtain ⟨la, lxs, ha, hla, hlx⟩ := lgs_get hLs hli
      rw [hx] at ha
      cases ha
      have hlm := List.getElem_mem (l := ls) (n := i) (by omega)
      generalize ls[i] = l at hli hlx hlm
      have hl20 := hok.len _ hlm
      have lx := hlx.length
      rw [List.length_map] at lx
      have e1 : Ex H' (upd H' T' (.tup [.int (i : Int), .ref la])) := Ex.new hT
      have x1 := he.trans e1
      refine ⟨T', _, rfl, st_of upd_same, rfl, _, _, rfl, _, _, rfl, rfl, ?_⟩
      generalize upd H' T' (.tup [.int (i : Int), .ref la]) = H1 at e1 x1
      refine s_forE (K := K) (σ := [some (.ref L), some (.int (i : Int)), some (.ref la), v3, v4, v5, v6, v7, none, none, none, none]) (ea_cons (ev_var (i := 2) rfl) ea_nil) (sq_of (x1 _ _ hla)) (fun j σ' H' => ∃ (v3 v4 v5 v6 v7 : Option V), σ' = [some (.ref L), some (.int (i : Int)), some (.ref la), v3, v4, v5, v6, v7, none, none, none, none] ∧ Ex H H' ∧ ∀ (j' : Nat) (m : Jm), j' < j → l[j']? = some m → entryB i j' m = true)
        (fun H2 e2 => ⟨v3, v4, v5, v6, v7, rfl, x1.trans e2, fun _ _ hj _ => absurd hj (Nat.not_lt_zero _)⟩) (fun j σ' H' _ ⟨_, _, _, _, _, _, e, _⟩ => sq_of (e _ _ hla)) (fun j y T2 σ' H2 hy ⟨w3, w4, w5, w6, w7, hσ, he2, hall2⟩ hT2 => ?_) (fun σ' H2 ⟨w3, w4, w5, w6, w7, hσ, he2, hall2⟩ => ?_)
      · subst hσ
        have hj : j < lxs.length := (List.getElem?_eq_some_iff.mp hy).1
        have hlj : l[j]? = some l[j] := List.getElem?_eq_getElem (by omega)
        obtain ⟨u, hu, hd⟩ := hlx.get (i := j) (d := dJm l[j]) (by rw [List.getElem?_map, hlj]; rfl)
        rw [hy] at hu
        cases hu
        have hmo := hok.ok _ hlm _ (List.getElem_mem (l := l) (n := j) (by omega))
        generalize l[j] = m at hlj hd hmo
        have e3 : Ex H2 (upd H2 T2 (.tup [.int (j : Int), y])) := Ex.new hT2
        have x3 := he2.trans e3
        obtain ⟨ma, mp, c, ps, rfl, hma, hmp, _, hps⟩ := jm_at (hd.ex x3)
        have hT2' : (upd H2 T2 (.tup [.int (j : Int), .ref ma])) T2 = some (.tup [.int (j : Int), .ref ma]) := upd_same
        generalize upd H2 T2 (.tup [.int (j : Int), .ref ma]) = H3 at e3 x3 hma hmp hps hT2'
        refine ⟨T2, _, rfl, st_of hT2', rfl, _, _, rfl, _, _, rfl, ma, _, rfl, st_of hma, rfl, _, _, rfl, _, _, rfl, rfl, rfl, ?_⟩
        have z6 := hmo.few
        refine q_asgL (i := 6) (σ := [some (.ref L), some (.int (i : Int)), some (.ref la), some (.int (j : Int)), some c, some (.ref mp), w6, w7, none, none, none, none]) (xs := (m.2.map (·.1)).map V.int) (el_ints (by
          rw [← fm_machs]
          exact eld_parts (K := K) (fun p => some (PyData.int p.1)) (ev_var (i := 5) rfl) hmp hps (by omega) (fun _ _ _ _ => rfl) (fun p _ u H4 _ _ => ⟨et_nil, fun e he => by cases he; exact fun H5 e5 Q5 q5 => ev_var (i := 8) rfl H5 e5 _ fun H6 e6 => q5 _ H6 e6 da_int⟩))) (fun ml H4 hml e4 h4 => ?_)
        have x4 := x3.trans e4
        refine q_asgL (i := 7) (σ := [some (.ref L), some (.int (i : Int)), some (.ref la), some (.int (j : Int)), some c, some (.ref mp), some (.ref ml), w7, none, none, none, none]) (xs := (m.2.filterMap (fun p => if p.1 = (i : Int) then some p.2.1 else none)).map V.int) (el_ints (by
          rw [← fm_own]
          exact eld_parts (K := K) (fun p => if p.1 = (i : Int) then some (PyData.int p.2.1) else none) (ev_var (i := 5) rfl) (e4 _ _ hmp) (hps.ex e4) (by omega) (fun _ _ _ _ => rfl) (fun p _ u H5 _ _ => ⟨et_is (et_test (ev_op (x := .int p.1) (y := .int (i : Int)) (ev_var (i := 8) rfl) (ev_var (i := 1) rfl) (rv_eq rfl))) (by
            by_cases c : p.1 = (i : Int)
            · simp [c]
            · simp [c]), fun e he => by
              by_cases c : p.1 = (i : Int)
              · rw [if_pos c] at he
                cases he
                exact fun H6 e6 Q6 q6 => ev_var (i := 9) rfl H6 e6 _ fun H7 e7 => q6 _ H7 e7 da_int
              · rw [if_neg c] at he
                cases he⟩))) (fun ol H5 hol e5 h5 => ?_)
        have x5 := x4.trans e5
        have h45 := e5 _ _ h4
        refine s_when (b := !entryB i j m) (σ := [some (.ref L), some (.int (i : Int)), some (.ref la), some (.int (j : Int)), some c, some (.ref mp), some (.ref ml), some (.ref ol), none, none, none, none]) (et_is (et_or (et_test (ev_neInts (K := K) (ys := [(j : Int)]) (ev_var (i := 7) rfl) h5 (el_lst (ea_cons (ev_var (i := 3) rfl) ea_nil) (by show 1 ≤ 100000; decide)))) (fun _ => et_test (ev_op (x := .int (cnt (m.2.map (·.1)) : Nat)) (y := .int ((m.2.map (·.1)).map V.int).length) (ev_lenSetI (ev_var (i := 6) rfl) h45 (by rw [List.length_map]; omega)) (ev_cb (ea_cons (ev_var (i := 6) rfl) ea_nil) (fun H9 e9 Q' q' => ⟨ml, _, rfl, .inl (sq_of (e9 _ _ h45)), q' H9 (Ex.refl H9)⟩)) (rv_ne rfl)))) (by
          unfold entryB
          rw [List.length_map, List.length_map, Bool.not_and]
          congr 2
          exact decide_eq_decide.mpr ⟨fun z => by injection z with z; omega, fun z => by rw [z]⟩)) (fun hb H6 e6 => ?_) (fun hb H6 e6 => ?_)
        · refine q2 (fun z => ?_) H6 (x5.trans e6)
          rw [z i j l m hli hlj] at hb
          cases hb
        · have hb' : entryB i j m = true := by
            cases c : entryB i j m with
            | true => rfl
            | false => rw [c] at hb; cases hb
          refine ⟨_, _, _, _, _, rfl, x5.trans e6, fun j' m' hj' hm' => ?_⟩
          by_cases c : j' < j
          · exact hall2 j' m' c hm'
          · obtain rfl : j' = j := by omega
            rw [hlj] at hm'
            cases hm'
            exact hb'
      · subst hσ
        refine ⟨_, _, _, _, _, _, _, rfl, he2, fun i' j' l' m' hi' hl' hm' => ?_⟩
        by_cases c : i' < i
        · exact hall i' j' l' m' c hl' hm'
        · obtain rfl : i' = i := by omega
          rw [hli] at hl'
          cases hl'
          exact hall2 j' m' (by have := (List.getElem?_eq_some_iff.mp hm').1; omega) hm'
    · subst hσ
      refine q1 (fun i j l m hl hm => hall i j l m (by have := (List.getElem?_eq_some_iff.mp hl).1; omega) hl hm) H' he
end
end Fs

set_option Elab.async false
set_option linter.all false
set_option maxRecDepth 100000
set_option maxHeartbeats 8000000
/-! check_turns, check_takers -/
namespace Fs
open PySem L2 Evl FsE FsC FsR FsK FsV FsD FsG
def TurnOk (ls : List (List Jm)) : Prop := ∀ l ∈ ls, ∀ m ∈ l, ∀ p ∈ m.2, (0 ≤ p.1 ∧ p.1 < (ls.length : Int)) ∧ ∀ l', ls[p.1.toNat]? = some l' → fitsB l' p.2.1 m = true
theorem jps_get {H : Hp} {ps : List V} {qs : List Jp} {i : Nat} {x : V} (h : DaL H ps (qs.map dJp)) (hx : ps[i]? = some x) : ∃ (p : Jp) (q : Addr) (u : V), qs[i]? = some p ∧ x = .ref q ∧ H q = some (.tup [.int p.1, .int p.2.1, .int p.2.2.1, u]) ∧ DaAt H u p.2.2.2 := by
  obtain ⟨d, hd, hda⟩ := h.got hx
  rw [List.getElem?_map] at hd
  obtain ⟨p, hp, rfl⟩ := Option.map_eq_some_iff.mp hd
  obtain ⟨q, u, rfl, h1, h2⟩ := jp_at hda
  exact ⟨p, q, u, hp, rfl, h1, h2⟩
theorem jms_get {H : Hp} {xs : List V} {l : List Jm} {i : Nat} {x : V} (h : DaL H xs (l.map dJm)) (hx : xs[i]? = some x) : ∃ m, l[i]? = some m ∧ DaAt H x (dJm m) := by
  obtain ⟨d, hd, hda⟩ := h.got hx
  rw [List.getElem?_map] at hd
  obtain ⟨p, hp, rfl⟩ := Option.map_eq_some_iff.mp hd
  exact ⟨p, hp, hda⟩
theorem lgs_got {H : Hp} {as : List V} {ls : List (List Jm)} {i : Nat} {x : V} (h : LsA LgAt H as ls) (hx : as[i]? = some x) : ∃ l a xs, ls[i]? = some l ∧ x = .ref a ∧ H a = some (.lst xs) ∧ DaL H xs (l.map dJm) := by
  obtain ⟨l, hl, a, xs, rfl, h1, h2⟩ := h.get hx
  exact ⟨l, a, xs, hl, rfl, h1, h2⟩
section
variable {P : Program} {w : World} {K : PySem.W.Frag} {mg : Str → Option Value} {base : Heap} {CJ : Addr}
def spTur (CJ : Addr) : Sp := fun vs H Q E => ∃ (L : Addr) (ls : List (List Jm)), vs = [.ref L] ∧ LgsAt H L ls ∧ LsOk ls ∧ (TurnOk ls → RetV .non H Q) ∧ (¬ TurnOk ls → BadJ CJ H E)
abbrev nsTur : List Str := ["logs", "log", "meeting", "channel", "parts", "machine", "turn", "place", "value"]
theorem scTur : FnScope nsTur ["logs"] (defScope (topS 16)) := ⟨rfl, rfl, rfl, by decide +kernel, rfl, by decide +kernel, by decide +kernel⟩
theorem ok_tur {f : Addr} {fd : FuncData} (F : Fun K "check_turns" "check_turns" (topS 16) f fd) (T : RunT K mg) (J : JnT K mg CJ) (GX : CalX P w K mg base CX0 2 "is_index" spIndex) (GF : CalX P w K mg base CX0 3 "log_fits" spFit) : FnOk P w K mg base (L2.CX P w) 4 f fd ["logs"] (spTur CJ) := by
  refine F.okX (k := 3) scTur (fun vs H Q E h => ?_) (fun cdv A outer s H vs Q E hr h => ?_)
  · obtain ⟨L, ls, rfl, _⟩ := h
    rfl
  · obtain ⟨L, ls, rfl, hL, hok, q1, q2⟩ := h
    refine ⟨_, pss_one (ps_for (passes_of rfl) rfl (pi_list (pv 0)) (pg_name (i := 1) scTur.nd rfl (.inl rfl))
      (pss_one (ps_for (passes_of rfl) rfl (pi_list (pv 1)) (pg_name (i := 2) scTur.nd rfl (.inl rfl))
        (pss_cons (ps_asg (pv 2) (pg_tup rfl (pgs_cons (pg_name (i := 3) scTur.nd rfl (.inl rfl)) (pgs_cons (pg_name (i := 4) scTur.nd rfl (.inl rfl)) pgs_nil))))
        (pss_one (ps_for (passes_of rfl) rfl (pi_tup (pv 4)) (pg_tup rfl (pgs_cons (pg_name (i := 5) scTur.nd rfl (.inl rfl)) (pgs_cons (pg_name (i := 6) scTur.nd rfl (.inl rfl)) (pgs_cons (pg_name (i := 7) scTur.nd rfl (.inl rfl)) (pgs_cons (pg_name (i := 8) scTur.nd rfl (.inl rfl)) pgs_nil)))))
          (pss_one (ps_if (PW.pt (pw_or (pt_not (pt_val (pe_cx (E := fun _ => E0) GX hr (by decide) (by rfl) at0 (pa_cons (pv 5) (pa_cons (pe_callB call_len_seq (by rfl) T.len PySem.boot_len (pa_cons (pv 0) pa_nil)) pa_nil)))))
            (pw_or1 (pt_not (pt_val (pe_cx (E := fun _ => E0) GF hr (by decide) (by rfl) at0 (pa_cons (pe_ix ix_list (pv 0) (pv 5) (fun _ _ => rfl)) (pa_cons (pv 6) (pa_cons (pv 2) pa_nil)))))))))
            (pss_one (ps_raise (W := fun cls d _ H => E cls d H) rfl (takes_of rfl rfl rfl rfl) (pmk_own0 PySem.F.excBase_ValueError J.q J.g J.k (raises_own J.s J.t) (by rfl)))) pss_nil)))))))), ?_⟩
    obtain ⟨as, hLa, hLs⟩ := hL
    have nA := hLs.length
    refine s_forL (K := K) (a := L) (xs := as) (σ := [some (.ref L), none, none, none, none, none, none, none, none]) (ev_var (i := 0) rfl) (sq_of hLa) (fun i σ' H' => ∃ (v1 v2 v3 v4 v5 v6 v7 v8 : Option V), σ' = [some (.ref L), v1, v2, v3, v4, v5, v6, v7, v8] ∧ Ex H H' ∧ ∀ l ∈ ls.take i, ∀ m ∈ l, ∀ p ∈ m.2, (0 ≤ p.1 ∧ p.1 < (ls.length : Int)) ∧ ∀ l', ls[p.1.toNat]? = some l' → fitsB l' p.2.1 m = true)
      (fun H1 e1 => ⟨none, none, none, none, none, none, none, none, rfl, e1, fun _ h => by simp at h⟩) (fun i σ' H' _ ⟨_, _, _, _, _, _, _, _, _, e, _⟩ => sq_of (e _ _ hLa)) (fun i x σ' H' hx ⟨v1, v2, v3, v4, v5, v6, v7, v8, hσ, he, hall⟩ => ?_) (fun σ' H' ⟨v1, v2, v3, v4, v5, v6, v7, v8, hσ, he, hall⟩ => ?_)
    · subst hσ
      obtain ⟨l, la, lxs, hli, rfl, hla, hlx⟩ := lgs_got hLs hx
      have hlm := List.mem_of_getElem? hli
      have lx := hlx.length
      rw [List.length_map] at lx
      refine s_forL (K := K) (a := la) (xs := lxs) (σ := [some (.ref L), some (.ref la), v2, v3, v4, v5, v6, v7, v8]) (ev_var (i := 1) rfl) (sq_of (he _ _ hla)) (fun j σ' H' => ∃ (v2 v3 v4 v5 v6 v7 v8 : Option V), σ' = [some (.ref L), some (.ref la), v2, v3, v4, v5, v6, v7, v8] ∧ Ex H H' ∧ ∀ m ∈ l.take j, ∀ p ∈ m.2, (0 ≤ p.1 ∧ p.1 < (ls.length : Int)) ∧ ∀ l', ls[p.1.toNat]? = some l' → fitsB l' p.2.1 m = true)
        (fun H1 e1 => ⟨v2, v3, v4, v5, v6, v7, v8, rfl, he.trans e1, fun _ h => by simp at h⟩) (fun j σ' H' _ ⟨_, _, _, _, _, _, _, _, e, _⟩ => sq_of (e _ _ hla)) (fun j y σ' H2 hy ⟨w2, w3, w4, w5, w6, w7, w8, hσ, he2, hall2⟩ => ?_) (fun σ' H2 ⟨w2, w3, w4, w5, w6, w7, w8, hσ, he2, hall2⟩ => ?_)
      · subst hσ
        obtain ⟨m, hlj, hd⟩ := jms_get hlx hy
        have hmm := List.mem_of_getElem? hlj
        have hmo := hok.ok _ hlm _ hmm
        obtain ⟨ma, mp, c, ps, rfl, hma, hmp, _, hps⟩ := jm_at (hd.ex he2)
        refine q_unpT2 (K := K) (ev_var (i := 2) rfl) hma [some (.ref L), some (.ref la), some (.ref ma), some c, some (.ref mp), w5, w6, w7, w8] rfl (fun H3 e3 => ?_)
        refine s_forT (K := K) (a := mp) (xs := ps) (σ := [some (.ref L), some (.ref la), some (.ref ma), some c, some (.ref mp), w5, w6, w7, w8]) (ev_var (i := 4) rfl) (st_of (e3 _ _ hmp)) (fun k σ' H' => ∃ (v5 v6 v7 v8 : Option V), σ' = [some (.ref L), some (.ref la), some (.ref ma), some c, some (.ref mp), v5, v6, v7, v8] ∧ Ex H2 H' ∧ ∀ p ∈ m.2.take k, (0 ≤ p.1 ∧ p.1 < (ls.length : Int)) ∧ ∀ l', ls[p.1.toNat]? = some l' → fitsB l' p.2.1 m = true)
          (fun H1 e1 => ⟨w5, w6, w7, w8, rfl, e3.trans e1, fun _ h => by simp at h⟩) (fun k σ' H' _ ⟨_, _, _, _, _, e, _⟩ => st_of (e _ _ hmp)) (fun k z σ' H4 hz ⟨u5, u6, u7, u8, hσ, he4, hall4⟩ => ?_) (fun σ' H4 ⟨u5, u6, u7, u8, hσ, he4, hall4⟩ => ?_)
        · subst hσ
          obtain ⟨p, qa, u, hp, rfl, hq, hu⟩ := jps_get hps hz
          have hpm := List.mem_of_getElem? hp
          have x4 := he2.trans he4
          refine ⟨qa, _, rfl, st_of (he4 _ _ hq), rfl, _, _, rfl, _, _, rfl, _, _, rfl, _, _, rfl, rfl, ?_⟩
          have eL : ∀ {H9 : Hp}, Ex H4 H9 → H9 L = some (.lst as) := fun e9 => (x4.trans e9) _ _ hLa
          have eX : EvT (tNot (tB (tCallS spIndex (fun _ => E0) (tCons (tVar 5) (tCons (tCB (fun xs H Q => ∃ p ys, xs = [V.ref p] ∧ (SqL K H p ys ∨ SqT K H p ys) ∧ Q (.int (ys.length : Nat)) H) (tCons (tVar 0) tNil)) tNil))))) [some (.ref L), some (.ref la), some (.ref ma), some c, some (.ref mp), some (.int p.1), some (.int p.2.1), some (.int p.2.2.1), some u] H4 (!(decide (0 ≤ p.1) && decide (p.1 < (ls.length : Int)))) := et_not (et_B (ev_cx (ea_cons (ev_var (i := 5) rfl) (ea_cons (ev_is (ev_cb (ea_cons (ev_var (i := 0) rfl) ea_nil) (fun H2 e2 Q' q' => ⟨L, as, rfl, .inl (sq_of (eL e2)), q' H2 (Ex.refl H2)⟩)) (by rw [nA])) ea_nil)) (fun H2 e2 Q' q' E' => ⟨p.1, (ls.length : Int), rfl, q'⟩)))
          have bad : ¬ ((0 ≤ p.1 ∧ p.1 < (ls.length : Int)) ∧ ∀ l', ls[p.1.toNat]? = some l' → fitsB l' p.2.1 m = true) → ¬ TurnOk ls := fun hn z => hn (z l hlm m hmm p hpm)
          by_cases hin : 0 ≤ p.1 ∧ p.1 < (ls.length : Int)
          · have hin' : (decide (0 ≤ p.1) && decide (p.1 < (ls.length : Int))) = true := by rw [decide_eq_true hin.1, decide_eq_true hin.2]; rfl
            rw [hin'] at eX
            obtain ⟨n, hn⟩ : ∃ n : Nat, p.1 = (n : Int) := ⟨p.1.toNat, by omega⟩
            have hnl : n < ls.length := by omega
            have hln : ls[n]? = some ls[n] := List.getElem?_eq_getElem hnl
            obtain ⟨a2, xs2, ha2, hh2, hd2⟩ := lgs_get hLs hln
            have ok2 : ∀ x ∈ ls[n], JmOk x := fun x hx => hok.ok _ (List.getElem_mem hnl) x hx
            generalize ls[n] = l2 at hln hd2 ok2
            have bv : ∀ {b}, fitsB l2 p.2.1 m = b → EvT (tNot (tB (tCallS spFit (fun _ => E0) (tCons (tOp (rIxL K) (tVar 0) (tVar 5)) (tCons (tVar 6) (tCons (tVar 2) tNil)))))) [some (.ref L), some (.ref la), some (.ref ma), some c, some (.ref mp), some (.int p.1), some (.int p.2.1), some (.int p.2.2.1), some u] H4 (!b) := fun {b} hb => et_not (et_B (ev_cx (ea_cons (ev_op (x := .ref L) (y := .int p.1) (ev_var (i := 0) rfl) (ev_var (i := 5) rfl) (rv_ixL (K := K) (sq_of (eL (Ex.refl H4))) (by rw [hn]; exact atI_nat ha2))) (ea_cons (ev_var (i := 6) rfl) (ea_cons (ev_var (i := 2) rfl) ea_nil))) (fun H5 e5 Q' q' E' => ⟨a2, xs2, l2, p.2.1, .ref ma, m, rfl, (x4.trans e5) _ _ hh2, hd2.ex (x4.trans e5), hd.ex (x4.trans e5), ok2, hmo, by rw [hb]; exact q'⟩)))
            refine s_when (b := !fitsB l2 p.2.1 m) (σ := [some (.ref L), some (.ref la), some (.ref ma), some c, some (.ref mp), some (.int p.1), some (.int p.2.1), some (.int p.2.2.1), some u]) (et_is (et_or eX (fun _ => bv rfl)) rfl) (fun hb H6 e6 => ?_) (fun hb H6 e6 => ?_)
            · refine q2 (bad fun z => ?_) H6 (x4.trans e6)
              rw [z.2 l2 (by rw [hn]; exact hln)] at hb
              cases hb
            · refine ⟨_, _, _, _, rfl, he4.trans e6, fun p' hp' => ?_⟩
              rw [List.take_add_one, hp] at hp'
              rcases List.mem_append.mp hp' with h | h
              · exact hall4 p' h
              · obtain rfl := List.mem_singleton.mp h
                refine ⟨hin, fun l' hl' => ?_⟩
                rw [hn] at hl'
                have : ls[n]? = some l' := hl'
                rw [hln] at this
                cases this
                cases c : fitsB l2 p'.2.1 m with
                | true => rfl
                | false => rw [c] at hb; cases hb
          · have hin' : (decide (0 ≤ p.1) && decide (p.1 < (ls.length : Int))) = false := by
              cases c : (decide (0 ≤ p.1) && decide (p.1 < (ls.length : Int))) with
              | false => rfl
              | true =>
                have c := Bool.and_eq_true_iff.mp c
                exact absurd ⟨of_decide_eq_true c.1, of_decide_eq_true c.2⟩ hin
            rw [hin'] at eX
            refine s_when (b := true) (σ := [some (.ref L), some (.ref la), some (.ref ma), some c, some (.ref mp), some (.int p.1), some (.int p.2.1), some (.int p.2.2.1), some u]) (et_is (et_or (b := false) eX (fun z => nomatch z)) rfl) (fun _ H6 e6 => ?_) (fun hb => nomatch hb)
            exact q2 (bad fun z => hin z.1) H6 (x4.trans e6)
        · subst hσ
          refine ⟨_, _, _, _, _, _, _, rfl, he2.trans he4, fun m' hm' p hp => ?_⟩
          rw [List.take_add_one, hlj] at hm'
          rcases List.mem_append.mp hm' with h | h
          · exact hall2 m' h p hp
          · obtain rfl := List.mem_singleton.mp h
            refine hall4 p ?_
            rw [List.take_of_length_le (by rw [hps.length, List.length_map]; exact Nat.le_refl _)]
            exact hp
      · subst hσ
        refine ⟨_, _, _, _, _, _, _, _, rfl, he2, fun l' hl' m hm p hp => ?_⟩
        rw [List.take_add_one, hli] at hl'
        rcases List.mem_append.mp hl' with h | h
        · exact hall l' h m hm p hp
        · obtain rfl := List.mem_singleton.mp h
          refine hall2 m ?_ p hp
          rw [List.take_of_length_le (by rw [lx]; exact Nat.le_refl _)]
          exact hm
    · subst hσ
      refine q1 (fun l hl m hm p hp => hall l ?_ m hm p hp) H' he
      rw [nA, List.take_length]
      exact hl
end
end Fs

set_option Elab.async false
set_option linter.all false
set_option maxRecDepth 100000
set_option maxHeartbeats 8000000
/-! check_takers -/
namespace Fs
open PySem L2 Evl FsE FsC FsR FsK FsV FsD FsG
mutual
theorem da_uniq {H : Hp} : ∀ (d e : PyData) (v : V), DaAt H v d → DaAt H v e → d = e
  | .int i, e, v, h, g => by
    have h := h.int
    subst h
    cases e with
    | int j => unfold DaAt at g; injection g with g; rw [g]
    | str z => unfold DaAt at g; cases g
    | tuple es => unfold DaAt at g; obtain ⟨_, _, z, _⟩ := g; cases z
    | _ => unfold DaAt at g; exact g.elim
  | .str i, e, v, h, g => by
    have h := h.str
    subst h
    cases e with
    | int j => unfold DaAt at g; cases g
    | str z => unfold DaAt at g; injection g with g; rw [g]
    | tuple es => unfold DaAt at g; obtain ⟨_, _, z, _⟩ := g; cases z
    | _ => unfold DaAt at g; exact g.elim
  | .tuple ds, e, v, h, g => by
    obtain ⟨a, xs, rfl, h1, h2⟩ := DaAt.tup h
    cases e with
    | int j => unfold DaAt at g; cases g
    | str z => unfold DaAt at g; cases g
    | tuple es =>
      obtain ⟨b, ys, e1, g1, g2⟩ := DaAt.tup g
      injection e1 with e1
      subst e1
      rw [h1] at g1
      cases g1
      rw [dal_uniq ds es xs h2 g2]
    | _ => unfold DaAt at g; exact g.elim
  | .none, e, v, h, g => by unfold DaAt at h; exact h.elim
  | .bool _, e, v, h, g => by unfold DaAt at h; exact h.elim
  | .list _, e, v, h, g => by unfold DaAt at h; exact h.elim
  | .dict _, e, v, h, g => by unfold DaAt at h; exact h.elim
theorem dal_uniq {H : Hp} : ∀ (ds es : List PyData) (xs : List V), DaL H xs ds → DaL H xs es → ds = es
  | [], [], _, _, _ => rfl
  | [], e :: es, xs, h, g => by
    unfold DaL at h g
    subst h
    obtain ⟨_, _, z, _⟩ := g
    cases z
  | d :: ds, [], xs, h, g => by
    unfold DaL at h g
    subst g
    obtain ⟨_, _, z, _⟩ := h
    cases z
  | d :: ds, e :: es, xs, h, g => by
    unfold DaL at h g
    obtain ⟨v, vs, rfl, h1, h2⟩ := h
    obtain ⟨u, us, z, g1, g2⟩ := g
    injection z with z1 z2
    subst z1 z2
    rw [da_uniq d e v h1 g1, dal_uniq ds es vs h2 g2]
end
def TakOk (ls : List (List Jm)) : Prop := ∀ l ∈ ls, ∀ m ∈ l, ∀ l' ∈ ls, ∀ m' ∈ l', ∀ p ∈ m.2, ∀ p' ∈ m'.2, p.1 = p'.1 → p.2.1 = p'.2.1 → m = m'
def kJ (p : Jp) : List L2.Key := [.inl p.1, .inl p.2.1]
theorem kJ_eq {p q : Jp} (h : kJ p = kJ q) : p.1 = q.1 ∧ p.2.1 = q.2.1 := by
  unfold kJ at h
  simp only [List.cons.injEq, Sum.inl.injEq, and_true] at h
  exact h
/-- the takers so far -/
def TkI (ls : List (List Jm)) (D : Addr) (n : Nat) (S : Jm → Jp → Prop) (H : Hp) : Prop := ∃ kvs : List (List L2.Key × V), H D = some (.dT kvs) ∧ kvs.length ≤ n ∧
  (∀ k v, valV kvs k = some v → ∃ l m p, l ∈ ls ∧ m ∈ l ∧ p ∈ m.2 ∧ k = kJ p ∧ DaAt H v (dJm m)) ∧ ∀ m p, S m p → ∃ v, valV kvs (kJ p) = some v ∧ DaAt H v (dJm m)
theorem TkI.mono {ls : List (List Jm)} {D : Addr} {n n' : Nat} {S S' : Jm → Jp → Prop} {H : Hp} (h : TkI ls D n S H) (hn : n ≤ n') (hs : ∀ m p, S' m p → S m p) : TkI ls D n' S' H := by
  obtain ⟨kvs, h1, h2, h3, h4⟩ := h
  exact ⟨kvs, h1, Nat.le_trans h2 hn, h3, fun m p hp => h4 m p (hs m p hp)⟩
theorem TkI.ex {ls : List (List Jm)} {D : Addr} {n : Nat} {S : Jm → Jp → Prop} {H H' : Hp} (e : Ex H H') (h : TkI ls D n S H) : TkI ls D n S H' := by
  obtain ⟨kvs, h1, h2, h3, h4⟩ := h
  refine ⟨kvs, e _ _ h1, h2, fun k v hv => ?_, fun m p hp => ?_⟩
  · obtain ⟨l, m, p, a1, a2, a3, a4, a5⟩ := h3 k v hv
    exact ⟨l, m, p, a1, a2, a3, a4, a5.ex e⟩
  · obtain ⟨v, a1, a2⟩ := h4 m p hp
    exact ⟨v, a1, a2.ex e⟩
theorem tk_dT {H : Hp} {D : Addr} {kvs kvs' : List (List L2.Key × V)} (h : H D = some (.dT kvs)) : TK H (upd H D (.dT kvs')) := fun a xs ha => by
  rw [upd_ne (fun z => by rw [z, h] at ha; cases ha)]
  exact ha
section
variable {P : Program} {w : World} {K : PySem.W.Frag} {mg : Str → Option Value} {base : Heap} {CJ : Addr}
/-- if takers.setdefault((machine, turn), meeting) != meeting: -/
theorem s_taker {σ : L2.St} {H : Hp} {D : Addr} {i0 i3 i6 i7 : Nat} {ls : List (List Jm)} {n : Nat} {S : Jm → Jp → Prop} {l : List Jm} {m : Jm} {p : Jp} {ma : V} {tu : TS} {E : Ends} {H0 : Hp} (s0 : σ[i0]? = some (some (.ref D))) (s3 : σ[i3]? = some (some ma)) (s6 : σ[i6]? = some (some (.int p.1))) (s7 : σ[i7]? = some (some (.int p.2.1)))
    (hm : DaAt H ma (dJm m)) (hok : LsOk ls) (hl : l ∈ ls) (hml : m ∈ l) (hp : p ∈ m.2) (h : TkI ls D n S H) (hn : n < 100000) (h0 : H0 D = none) (he : Ex H0 H)
    (k1 : ¬ TakOk ls → ∀ H', Ex H0 H' → tu E σ H') (k2 : ∀ H', Ex H0 H' → TkI ls D (n + 1) (fun m' p' => S m' p' ∨ (m' = m ∧ p' = p)) H' → E.nx σ H') :
    tIfS (tTest (tOp (rNeD K) (tDSetdT (tVar i0) (tTup (tCons (tVar i6) (tCons (tVar i7) tNil))) (tVar i3)) (tVar i3))) tu tNext E σ H := by
  obtain ⟨kvs, hD, hlen, hv, hs⟩ := h
  have hmo := hok.ok _ hl _ hml
  refine ⟨_, s0, D, rfl, .inr ⟨kvs, .inl hD⟩, ?_⟩
  refine eu_tup (vs := [.int p.1, .int p.2.1]) (ea_cons (ev_var s6) (ea_cons (ev_var s7) ea_nil)) (by show 2 ≤ 100000; decide) H (Ex.refl H) _ fun t H5 ht e5 h5 => ?_
  have hD5 := e5 _ _ hD
  refine ⟨_, s3, kvs, kJ p, t, hD5, rfl, h5, by rw [sizeLine_eq]; omega, fun v hv' => ?_, fun hnone => ?_⟩
  · obtain ⟨l', m', p', a1, a2, a3, a4, a5⟩ := hv _ _ hv'
    have hmo' := hok.ok _ a1 _ a2
    refine ⟨_, s3, dJm m', dJm m, dp_da (a5.ex e5), dp_da (hm.ex e5), sh_jm hmo', sh_jm hmo, _, rfl, ?_⟩
    cases c : (dJm m').eqv (dJm m) with
    | true =>
      have : m' = m := (eqJ_iff hmo' hmo).mp c
      subst this
      rw [if_neg (by decide)]
      refine k2 H5 (he.trans e5) ⟨kvs, hD5, by omega, fun k v hk => ?_, fun m2 p2 h2 => ?_⟩
      · obtain ⟨l2, m2, p2, b1, b2, b3, b4, b5⟩ := hv k v hk
        exact ⟨l2, m2, p2, b1, b2, b3, b4, b5.ex e5⟩
      · rcases h2 with h2 | ⟨rfl, rfl⟩
        · obtain ⟨v2, b1, b2⟩ := hs m2 p2 h2
          exact ⟨v2, b1, b2.ex e5⟩
        · exact ⟨v, hv', a5.ex e5⟩
    | false =>
      rw [if_pos (by decide)]
      refine k1 (fun z => ?_) H5 (he.trans e5)
      obtain ⟨q1, q2⟩ := kJ_eq a4
      have : m' = m := z l' a1 m' a2 l hl m hml p' a3 p hp q1.symm q2.symm
      rw [(eqJ_iff hmo' hmo).mpr this |> fun (q : eqJ m' m = true) => (show (dJm m').eqv (dJm m) = true from q)] at c
      cases c
  · have tk : TK H5 (upd H5 D (.dT (putK kvs (kJ p) ma))) := tk_dT hD5
    have tk0 : TK H (upd H5 D (.dT (putK kvs (kJ p) ma))) := (TK.of e5).trans tk
    refine ⟨_, s3, dJm m, dJm m, dp_da (hm.keep tk0), dp_da (hm.keep tk0), sh_jm hmo, sh_jm hmo, _, rfl, ?_⟩
    rw [show PyData.eqv (dJm m) (dJm m) = true from eqJ_self hmo]
    show E.nx σ _
    refine k2 _ (Ex.mut (he.trans e5) h0) ⟨_, upd_same, by have := length_putK kvs (kJ p) ma; omega, fun k v hk => ?_, fun m2 p2 h2 => ?_⟩
    · rw [valV_put] at hk
      by_cases c : k = kJ p
      · rw [if_pos c] at hk
        cases hk
        exact ⟨l, m, p, hl, hml, hp, c, hm.keep tk0⟩
      · rw [if_neg c] at hk
        obtain ⟨l2, m2, p2, b1, b2, b3, b4, b5⟩ := hv k v hk
        exact ⟨l2, m2, p2, b1, b2, b3, b4, b5.keep tk0⟩
    · rw [valV_put]
      rcases h2 with h2 | ⟨rfl, rfl⟩
      · obtain ⟨v2, b1, b2⟩ := hs m2 p2 h2
        rw [if_neg (fun z => by rw [z, hnone] at b1; cases b1)]
        exact ⟨v2, b1, b2.keep tk0⟩
      · rw [if_pos rfl]
        exact ⟨ma, rfl, hm.keep tk0⟩
def spTak (CJ : Addr) : Sp := fun vs H Q E => ∃ (L : Addr) (ls : List (List Jm)), vs = [.ref L] ∧ LgsAt H L ls ∧ LsOk ls ∧ (TakOk ls → RetV .non H Q) ∧ (¬ TakOk ls → BadJ CJ H E)
abbrev nsTak : List Str := ["logs", "takers", "log", "meeting", "channel", "parts", "machine", "turn", "place", "value"]
theorem scTak : FnScope nsTak ["logs"] (defScope (topS 17)) := ⟨rfl, rfl, rfl, by decide +kernel, rfl, by decide +kernel, by decide +kernel⟩
theorem ok_tak {f : Addr} {fd : FuncData} (F : Fun K "check_takers" "check_takers" (topS 17) f fd) (T : RunT K mg) (J : JnT K mg CJ) : FnOk P w K mg base (L2.CX P w) 1 f fd ["logs"] (spTak CJ) := by
  refine F.okX (k := 0) scTak (fun vs H Q E h => ?_) (fun cdv A outer s H vs Q E hr h => ?_)
  · obtain ⟨L, ls, rfl, _⟩ := h
    rfl
  · obtain ⟨L, ls, rfl, hL, hok, q1, q2⟩ := h
    refine ⟨_, pss_cons (ps_set (i := 1) scTak.nd rfl (Or.inl rfl) pe_dnewT)
      (pss_one (ps_for (passes_of rfl) rfl (pi_list (pv 0)) (pg_name (i := 2) scTak.nd rfl (.inl rfl))
      (pss_one (ps_for (passes_of rfl) rfl (pi_list (pv 2)) (pg_name (i := 3) scTak.nd rfl (.inl rfl))
        (pss_cons (ps_asg (pv 3) (pg_tup rfl (pgs_cons (pg_name (i := 4) scTak.nd rfl (.inl rfl)) (pgs_cons (pg_name (i := 5) scTak.nd rfl (.inl rfl)) pgs_nil))))
        (pss_one (ps_for (passes_of rfl) rfl (pi_tup (pv 5)) (pg_tup rfl (pgs_cons (pg_name (i := 6) scTak.nd rfl (.inl rfl)) (pgs_cons (pg_name (i := 7) scTak.nd rfl (.inl rfl)) (pgs_cons (pg_name (i := 8) scTak.nd rfl (.inl rfl)) (pgs_cons (pg_name (i := 9) scTak.nd rfl (.inl rfl)) pgs_nil)))))
          (pss_one (ps_if (pt_cmpR (op_neD hr.units) (pe_dsetdT (hu_of hr) (pv 1) (pe_tup (pa_cons (pv 6) (pa_cons (pv 7) pa_nil))) (pv 3) ⟨rfl, rfl, rfl, rfl⟩) (pv 3) (nomark _))
            (pss_one (ps_raise (W := fun cls d _ H => E cls d H) rfl (takes_of rfl rfl rfl rfl) (pmk_own0 PySem.F.excBase_ValueError J.q J.g J.k (raises_own J.s J.t) (by rfl)))) pss_nil))))))))), ?_⟩
    obtain ⟨as, hLa, hLs⟩ := hL
    have nA := hLs.length
    refine fun D hD => ?_
    have e0 : Ex H (upd H D (.dT [])) := Ex.new hD
    refine s_forL (K := K) (a := L) (xs := as) (σ := [some (.ref L), some (.ref D), none, none, none, none, none, none, none, none]) (ev_var (i := 0) rfl) (sq_of (e0 _ _ hLa)) (fun i σ' H' => ∃ (v2 v3 v4 v5 v6 v7 v8 v9 : Option V), σ' = [some (.ref L), some (.ref D), v2, v3, v4, v5, v6, v7, v8, v9] ∧ Ex H H' ∧ TkI ls D (i * 120) (fun m p => (∃ l ∈ ls.take i, m ∈ l) ∧ p ∈ m.2) H')
      (fun H1 e1 => ⟨none, none, none, none, none, none, none, none, rfl, e0.trans e1, ⟨[], e1 _ _ upd_same, Nat.le_refl _, fun k v h => (by simp [valV] at h), fun m p h => (by obtain ⟨⟨l, hl, _⟩, _⟩ := h; simp at hl)⟩⟩) (fun i σ' H' _ ⟨_, _, _, _, _, _, _, _, _, e, _⟩ => sq_of (e _ _ hLa)) (fun i x σ' H' hx ⟨v2, v3, v4, v5, v6, v7, v8, v9, hσ, he, htk⟩ => ?_) (fun σ' H' ⟨v2, v3, v4, v5, v6, v7, v8, v9, hσ, he, htk⟩ => ?_)
    · subst hσ
      have hi : i < as.length := (List.getElem?_eq_some_iff.mp hx).1
      obtain ⟨l, la, lxs, hli, rfl, hla, hlx⟩ := lgs_got hLs hx
      have hlm := List.mem_of_getElem? hli
      have lx := hlx.length
      rw [List.length_map] at lx
      have l20 := hok.len _ hlm
      have f10 := hok.few
      refine s_forL (K := K) (a := la) (xs := lxs) (σ := [some (.ref L), some (.ref D), some (.ref la), v3, v4, v5, v6, v7, v8, v9]) (ev_var (i := 2) rfl) (sq_of (he _ _ hla)) (fun j σ' H' => ∃ (v3 v4 v5 v6 v7 v8 v9 : Option V), σ' = [some (.ref L), some (.ref D), some (.ref la), v3, v4, v5, v6, v7, v8, v9] ∧ Ex H H' ∧ TkI ls D (i * 120 + j * 6) (fun m p => ((∃ l ∈ ls.take i, m ∈ l) ∧ p ∈ m.2) ∨ (m ∈ l.take j ∧ p ∈ m.2)) H')
        (fun H1 e1 => ⟨v3, v4, v5, v6, v7, v8, v9, rfl, he.trans e1, (htk.ex e1).mono (by omega) fun m p h => h.elim id fun z => by simp at z⟩) (fun j σ' H' _ ⟨_, _, _, _, _, _, _, _, e, _⟩ => sq_of (e _ _ hla)) (fun j y σ' H2 hy ⟨w3, w4, w5, w6, w7, w8, w9, hσ, he2, htk2⟩ => ?_) (fun σ' H2 ⟨w3, w4, w5, w6, w7, w8, w9, hσ, he2, htk2⟩ => ?_)
      · subst hσ
        have hj : j < lxs.length := (List.getElem?_eq_some_iff.mp hy).1
        obtain ⟨m, hlj, hd⟩ := jms_get hlx hy
        have hmm := List.mem_of_getElem? hlj
        have hmo := hok.ok _ hlm _ hmm
        have m6 := hmo.few
        obtain ⟨ma, mp, c, ps, rfl, hma, hmp, _, hps⟩ := jm_at hd
        refine q_unpT2 (K := K) (ev_var (i := 3) rfl) (he2 _ _ hma) [some (.ref L), some (.ref D), some (.ref la), some (.ref ma), some c, some (.ref mp), w6, w7, w8, w9] rfl (fun H3 e3 => ?_)
        refine s_forT (K := K) (a := mp) (xs := ps) (σ := [some (.ref L), some (.ref D), some (.ref la), some (.ref ma), some c, some (.ref mp), w6, w7, w8, w9]) (ev_var (i := 5) rfl) (st_of ((he2.trans e3) _ _ hmp)) (fun k σ' H' => ∃ (v6 v7 v8 v9 : Option V), σ' = [some (.ref L), some (.ref D), some (.ref la), some (.ref ma), some c, some (.ref mp), v6, v7, v8, v9] ∧ Ex H H' ∧ TkI ls D (i * 120 + j * 6 + k) (fun m' p => (((∃ l ∈ ls.take i, m' ∈ l) ∧ p ∈ m'.2) ∨ (m' ∈ l.take j ∧ p ∈ m'.2)) ∨ (m' = m ∧ p ∈ m.2.take k)) H')
          (fun H1 e1 => ⟨w6, w7, w8, w9, rfl, (he2.trans e3).trans e1, (htk2.ex (e3.trans e1)).mono (by omega) fun m' p h => h.elim id fun z => by simp at z⟩) (fun k σ' H' _ ⟨_, _, _, _, _, e, _⟩ => st_of (e _ _ hmp)) (fun k z σ' H4 hz ⟨u6, u7, u8, u9, hσ, he4, htk4⟩ => ?_) (fun σ' H4 ⟨u6, u7, u8, u9, hσ, he4, htk4⟩ => ?_)
        · subst hσ
          have hk : k < ps.length := (List.getElem?_eq_some_iff.mp hz).1
          have lps := hps.length
          rw [List.length_map] at lps
          obtain ⟨p, qa, u, hp, rfl, hq, hu⟩ := jps_get hps hz
          have hpm := List.mem_of_getElem? hp
          refine ⟨qa, _, rfl, st_of (he4 _ _ hq), rfl, _, _, rfl, _, _, rfl, _, _, rfl, _, _, rfl, rfl, ?_⟩
          refine s_taker (K := K) (i0 := 1) (i3 := 3) (i6 := 6) (i7 := 7) (σ := [some (.ref L), some (.ref D), some (.ref la), some (.ref ma), some c, some (.ref mp), some (.int p.1), some (.int p.2.1), some (.int p.2.2.1), some u]) (H0 := H) (l := l) (m := m) (p := p) rfl rfl rfl rfl (hd.ex he4) hok hlm hmm hpm htk4 (by omega) hD he4 (fun hn H5 e5 => q2 hn H5 e5) (fun H5 e5 htk5 => ?_)
          refine ⟨_, _, _, _, rfl, e5, htk5.mono (by omega) fun m' p' h => ?_⟩
          rcases h with h | ⟨rfl, h⟩
          · exact .inl (.inl h)
          · rw [List.take_add_one, hp] at h
            rcases List.mem_append.mp h with h | h
            · exact .inl (.inr ⟨rfl, h⟩)
            · exact .inr ⟨rfl, List.mem_singleton.mp h⟩
        · subst hσ
          have lps := hps.length
          rw [List.length_map] at lps
          refine ⟨_, _, _, _, _, _, _, rfl, he4, htk4.mono (by omega) fun m' p' h => ?_⟩
          rcases h with h | ⟨h, hp'⟩
          · exact .inl (.inl h)
          · rw [List.take_add_one, hlj] at h
            rcases List.mem_append.mp h with h | h
            · exact .inl (.inr ⟨h, hp'⟩)
            · obtain rfl := List.mem_singleton.mp h
              refine .inr ⟨rfl, ?_⟩
              rw [lps, List.take_length]
              exact hp'
      · subst hσ
        refine ⟨_, _, _, _, _, _, _, _, rfl, he2, htk2.mono (by omega) fun m' p' h => ?_⟩
        obtain ⟨⟨l', hl', hm'⟩, hp'⟩ := h
        rw [List.take_add_one, hli] at hl'
        rcases List.mem_append.mp hl' with h | h
        · exact .inl ⟨⟨l', h, hm'⟩, hp'⟩
        · obtain rfl := List.mem_singleton.mp h
          refine .inr ⟨?_, hp'⟩
          rw [lx, List.take_length]
          exact hm'
    · subst hσ
      refine q1 (fun l hl m hm l' hl' m' hm' p hp p' hp' e1 e2 => ?_) H' he
      obtain ⟨kvs, _, _, _, hs⟩ := htk
      rw [nA, List.take_length] at hs
      obtain ⟨v, a1, a2⟩ := hs m p ⟨⟨l, hl, hm⟩, hp⟩
      obtain ⟨v', b1, b2⟩ := hs m' p' ⟨⟨l', hl', hm'⟩, hp'⟩
      have ek : kJ p = kJ p' := by unfold kJ; rw [e1, e2]
      rw [ek, b1] at a1
      cases a1
      exact jm_inj (da_uniq _ _ _ a2 b2)
end
end Fs

set_option Elab.async false
set_option linter.all false
set_option maxRecDepth 100000
set_option maxHeartbeats 4000000
/-! [e for i, x in enumerate(a list) if ..], data; xs[i] += k -/
namespace FsD
open PySem PySem.Spec PyProof.Rows L2 Evl FsE FsK FsV FsG FsW
def CwE (H1 : Hp) (fI : Nat → Option PyData) (D : Addr) (i : Nat) (H' : Hp) : Prop := H1 D = none ∧ Ex H1 H' ∧ ∃ ys, H' D = some (.lst ys) ∧ DaL H' ys ((List.range i).filterMap fI)
section
variable {σ : L2.St} {H : Hp} {te : TE} {K : PySem.W.Frag}
theorem eld_lcE {ta : TA} {a : Addr} {xs : List V} {g : TG} {tt : TT} {vs : List Nat} (fI : Nat → Option PyData) (h : EvA ta σ H [.ref a]) (hx : SqL K H a xs) (hz : xs.length ≤ 1000)
    (T : ∀ (i : Nat) (x : V) (t : Addr) (H1 : Hp) (Q : L2.St → Hp → Prop), Ex H H1 → xs[i]? = some x → H1 t = some (.tup [.int (i : Int), x]) → (∀ σ2, wipe σ2 vs = wipe σ vs → EvT tt σ2 H1 (fI i).isSome → (∀ e, fI i = some e → EvS te σ2 H1 (fun v H' => DaAt H' v e)) → Q σ2 H1) → g (.ref t) (wipe σ vs) H1 Q) :
    EvLD (tLc (iEnum K ta) g tt te vs) σ H ((List.range xs.length).filterMap fI) := fun H0 e Q q => h H0 e _ fun H1 e1 => ⟨a, xs, rfl, ex_l (e.trans e1) hx, fun D hD =>
  lc_it (walk_enum (K := K) (a := a) (xs := xs)) (CwE H1 fI D) ⟨hD, Ex.new hD, [], upd_same, DaL.nil⟩ (fun i H' _ p => ex_l ((e.trans e1).trans p.2.1) hx) (fun i x H' H2 hi p y => by
    obtain ⟨t, x1, x2, rfl, ht, eH, h1, h2⟩ := y
    cases h1
    obtain ⟨p1, p2, ys, p3, p4⟩ := p
    subst eH
    have en : Ex H' (upd H' t (.tup [.int (i : Int), x2])) := Ex.new ht
    have ly : ys.length ≤ i := by
      rw [p4.length]
      exact Nat.le_trans (List.length_filterMap_le _ _) (by rw [List.length_range]; exact Nat.le_refl _)
    refine T i x2 t _ _ ((e.trans e1).trans (p2.trans en)) h2 upd_same fun σ2 hw ht' he => ⟨hw, ht' _ (Ex.refl _) _ fun H3 e3 => ?_⟩
    cases c : fI i with
    | none =>
      rw [Option.isSome_none, if_neg Bool.false_ne_true]
      refine ⟨p1, (p2.trans en).trans e3, ys, (en.trans e3) _ _ p3, ?_⟩
      rw [List.range_succ, List.filterMap_append]
      simp only [List.filterMap_cons, c, List.filterMap_nil, List.append_nil]
      exact p4.ex (en.trans e3)
    | some z =>
      rw [Option.isSome_some, if_pos rfl]
      refine he z c H3 e3 _ fun y H4 e4 hy => ⟨ys, (en.trans (e3.trans e4)) _ _ p3, by rw [sizeLine_eq]; omega, p1, Ex.mut (((p2.trans en).trans e3).trans e4) p1, ys ++ [y], upd_same, ?_⟩
      have k := tk_lst (zs := ys ++ [y]) ((en.trans (e3.trans e4)) _ _ p3)
      rw [List.range_succ, List.filterMap_append]
      simp only [List.filterMap_cons, c, List.filterMap_nil]
      exact DaL.snoc ((p4.ex (en.trans (e3.trans e4))).keep k) (hy.keep k))
    (fun H' p => by
      obtain ⟨p1, p2, ys, p3, p4⟩ := p
      exact q D ys H' (fresh_back e1 p1) (e1.trans p2) p3 p4)⟩
/-- o[i], o a list, by values -/
def rGetL (K : PySem.W.Frag) : V → V → Hp → VK → Prop := fun x y H Q => ∃ (p : Addr) (xs : List V) (i : Nat) (v : V), x = .ref p ∧ y = .int (i : Int) ∧ SqL K H p xs ∧ xs[i]? = some v ∧ Q v H
theorem get_list {X : Cx} : PGet X (rGetL X.K) := by
  intro pins s σ H o i ov iv Q I ro ri h
  obtain ⟨p, xs, n, v, rfl, rfl, hq, he, q⟩ := h
  cases ro
  obtain ⟨t, rfl⟩ := ri
  obtain ⟨its, r, pl, hz⟩ := I.list hq
  obtain ⟨w, ew, rw'⟩ := r.get he
  have hl := r.length
  have hn := line63
  have hi := (List.getElem?_eq_some_iff.mp he).1
  refine wpAny_getItem_list pl.isList (by omega) (by omega) (x := w) (by simpa using ew) ⟨v, H, I, rw', q⟩
end
end FsD

set_option Elab.async false
set_option linter.all false
set_option maxRecDepth 100000
set_option maxHeartbeats 8000000
/-! ready_meetings -/
namespace Fs
open PySem L2 Evl FsE FsC FsR FsK FsV FsD FsG
def unJm : PyData → Option Jm
  | .tuple [c, .tuple es] => some (c, es.filterMap unJp)
  | _ => none
theorem un_jm (m : Jm) : unJm (dJm m) = some m := by
  obtain ⟨c, ps⟩ := m
  show some (c, (ps.map dJp).filterMap unJp) = some (c, ps)
  have : (ps.map dJp).filterMap unJp = ps := by
    induction ps with
    | nil => rfl
    | cons p ps ih =>
      rw [List.map_cons, List.filterMap_cons, un_jp, ih]
  rw [this]
/-- the heads of the logs behind what is taken -/
def headsL (ls : List (List Jm)) (ts : List Nat) : List Jm := (List.range ls.length).filterMap fun i => (ls.getD i [])[ts.getD i 0]?
def readyB (ts : List Nat) (m : Jm) : Bool := m.2.all fun p => decide (((ts.getD p.1.toNat 0 : Nat) : Int) = p.2.1)
def readyL (ls : List (List Jm)) (ts : List Nat) : List Jm := (headsL ls ts).filter (readyB ts)
abbrev tsV (ts : List Nat) : List V := ts.map fun n : Nat => V.int (n : Int)
theorem fm_heads {ls : List (List Jm)} {ts : List Nat} : (List.range ls.length).filterMap (fun i => ((ls.getD i [])[ts.getD i 0]?).map dJm) = (headsL ls ts).map dJm := by
  unfold headsL
  rw [List.map_filterMap]
theorem fm_ready {ts : List Nat} : ∀ {hs : List Jm}, (hs.map dJm).filterMap (fun d => (unJm d).bind fun m => if readyB ts m = true then some (dJm m) else none) = (hs.filter (readyB ts)).map dJm
  | [] => rfl
  | m :: hs => by
    rw [List.map_cons, List.filterMap_cons, un_jm, fm_ready, List.filter_cons, Option.bind_some]
    by_cases h : readyB ts m = true
    · rw [if_pos h, if_pos h, List.map_cons]
    · rw [if_neg h, if_neg h]
def RetLD (ds : List PyData) (H : Hp) (Q : VK) : Prop := ∀ a xs H2, H a = none → Ex H H2 → H2 a = some (.lst xs) → DaL H2 xs ds → Q (.ref a) H2
/-- all machines of the logs' meetings are owners of logs -/
def InRange (ls : List (List Jm)) : Prop := ∀ l ∈ ls, ∀ m ∈ l, ∀ p ∈ m.2, 0 ≤ p.1 ∧ p.1 < (ls.length : Int)
theorem heads_mem {ls : List (List Jm)} {ts : List Nat} {m : Jm} (h : m ∈ headsL ls ts) : ∃ l ∈ ls, m ∈ l := by
  unfold headsL at h
  obtain ⟨i, hi, hm⟩ := List.mem_filterMap.mp h
  have hi := List.mem_range.mp hi
  rw [List.getD_eq_getElem?_getD, List.getElem?_eq_getElem hi] at hm
  exact ⟨ls[i], List.getElem_mem hi, List.mem_of_getElem? hm⟩
section
variable {P : Program} {w : World} {K : PySem.W.Frag} {mg : Str → Option Value} {base : Heap} {CJ : Addr}
def spRdy : Sp := fun vs H Q _ => ∃ (L tk : Addr) (ls : List (List Jm)) (ts : List Nat), vs = [.ref L, .ref tk] ∧ LgsAt H L ls ∧ LsOk ls ∧ H tk = some (.lst (tsV ts)) ∧ ts.length = ls.length ∧ InRange ls ∧ RetLD ((readyL ls ts).map dJm) H Q
abbrev nsRdy : List Str := ["logs", "taken", "heads", "owner", "log", "channel", "parts", "machine", "turn", "place", "value"]
theorem scRdy : FnScope nsRdy ["logs", "taken"] (defScope (topS 19)) := ⟨rfl, rfl, rfl, by decide +kernel, rfl, by decide +kernel, by decide +kernel⟩
abbrev owE : List (Str × Nat) := [("owner", 3), ("log", 4)]
abbrev owC : List (Str × Nat) := [("channel", 5), ("parts", 6)]
abbrev owP : List (Str × Nat) := [("machine", 7), ("turn", 8), ("place", 9), ("value", 10)]
abbrev scKR : Scope := { kind := .function, names := [(PySem.Str.ofString ".0", .local), (PySem.Str.ofString "channel", .local), (PySem.Str.ofString "parts", .local), (PySem.Str.ofString "all", .globalImplicit), (PySem.Str.ofString "taken", .cell)], isGenerator := false, isCoroutine := false }
theorem ok_rdy {f : Addr} {fd : FuncData} (F : Fun K "ready_meetings" "ready_meetings" (topS 19) f fd) (T : RunT K mg) (J : JnT K mg CJ) : FnOk P w K mg base CX0 1 f fd ["logs", "taken"] spRdy := by
  refine F.ok (k := 0) scRdy (fun vs H Q E h => ?_) (fun cdv A outer s H vs Q E hr h => ?_)
  · obtain ⟨L, tk, ls, ts, rfl, _⟩ := h
    rfl
  · obtain ⟨L, tk, ls, ts, rfl, hL, hok, htk, hlen, hin, q⟩ := h
    refine ⟨_, pss_cons (ps_setLc (i := 2) (own := owE) (g := gTup K 2 (gCons (gName 3) (gCons (gName 4) gNil))) (tt := tTest (tOp (rI0 fun i j => .bl (decide (i < j))) (tOp (rIxL K) (tVar 1) (tVar 3)) (tCB (fun xs H Q => ∃ p ys, xs = [V.ref p] ∧ (SqL K H p ys ∨ SqT K H p ys) ∧ Q (.int (ys.length : Nat)) H) (tCons (tVar 4) tNil)))) (te := tOp (rIxL K) (tVar 4) (tOp (rIxL K) (tVar 1) (tVar 3))) rfl scRdy.nd rfl rfl (sw_true rfl rfl rfl (by decide +kernel)) (pi_enum (by rfl) J.enum (pa_cons (pv 0) pa_nil)) (blkOk_by (own := owE) (N := nsRdy) (sc := defScope (topS 19)) (by decide +kernel))
        (fun _ _ _ _ _ => pg_tup rfl (pgs_cons (pg_name (i := 3) scRdy.nd rfl (.inl rfl)) (pgs_cons (pg_name (i := 4) scRdy.nd rfl (.inl rfl)) pgs_nil))) (fun _ _ _ _ _ => pts_one (pt_cmpR op_lt (pe_ix ix_list (pv 1) (pv 3) (fun _ _ => rfl)) (pe_callB call_len_seq (by rfl) T.len PySem.boot_len (pa_cons (pv 4) pa_nil)) (nomark _))) (fun _ _ _ _ _ => pe_ix ix_list (pv 4) (pe_ix ix_list (pv 1) (pv 3) (fun _ _ => rfl)) (fun _ _ => rfl)))
      (pss_one (ps_ret (pe_lc (own := owC) (g := gTup K 2 (gCons (gName 5) (gCons (gName 6) gNil))) (tt := tB (tCB (rAll K) (tCons (tLc (iTup K (tVar 6)) (gTup K 4 (gCons (gName 7) (gCons (gName 8) (gCons (gName 9) (gCons (gName 10) gNil))))) tYes (tOp rEq (tOp (rIxL K) (tVar 1) (tVar 7)) (tVar 8)) [7, 8, 9, 10]) tNil))) (te := tTup (tCons (tVar 5) (tCons (tVar 6) tNil))) rfl scRdy.nd (pi_list (pv 2)) (blkOk_by (own := owC) (N := nsRdy) (sc := defScope (topS 19)) (by decide +kernel))
        (fun _ _ _ _ _ => pg_tup rfl (pgs_cons (pg_name (i := 5) scRdy.nd rfl (.inl rfl)) (pgs_cons (pg_name (i := 6) scRdy.nd rfl (.inl rfl)) pgs_nil)))
        (fun _ _ _ _ _ => pts_one (pt_val (pe_callB (cr_all rfl) (by rfl) J.all (by decide +kernel) (pa_cons
          (pe_lc (own := owP) (g := gTup K 4 (gCons (gName 7) (gCons (gName 8) (gCons (gName 9) (gCons (gName 10) gNil))))) (tt := tYes) (te := tOp rEq (tOp (rIxL K) (tVar 1) (tVar 7)) (tVar 8)) rfl scRdy.nd (pi_tup (pv 6)) (by show BlkOk nsRdy scKR _ _; exact blkOk_by (by decide +kernel))
            (fun _ _ _ _ _ => pg_tup rfl (pgs_cons (pg_name (i := 7) scRdy.nd rfl (.inl rfl)) (pgs_cons (pg_name (i := 8) scRdy.nd rfl (.inl rfl)) (pgs_cons (pg_name (i := 9) scRdy.nd rfl (.inl rfl)) (pgs_cons (pg_name (i := 10) scRdy.nd rfl (.inl rfl)) pgs_nil))))) (fun _ _ _ _ _ => pts_nil) (fun _ _ _ _ _ => pe_cmpR op_eq (pe_ix ix_list (pv 1) (pv 7) (fun _ _ => rfl)) (pv 8) (nomark _))) pa_nil))))
        (fun _ _ _ _ _ => pe_tup (pa_cons (pv 5) (pa_cons (pv 6) pa_nil)))))), ?_⟩
    obtain ⟨as, hLa, hLs⟩ := hL
    have nA := hLs.length
    have f10 := hok.few
    have ets : ∀ {i : Nat}, i < ls.length → (tsV ts)[i]? = some (.int ((ts.getD i 0 : Nat) : Int)) := fun {i} hi => by
      have : i < ts.length := by omega
      rw [List.getElem?_map, List.getD_eq_getElem?_getD, List.getElem?_eq_getElem this]
      rfl
    refine q_asgLD (i := 2) (σ := [some (.ref L), some (.ref tk), none, none, none, none, none, none, none, none, none]) (eld_lcE (K := K) (xs := as) (vs := [3, 4]) (fun i => ((ls.getD i [])[ts.getD i 0]?).map dJm) (ea_cons (ev_var (i := 0) rfl) ea_nil) (sq_of hLa) (by omega) (fun i x t H1 Q e1 hx ht k => ?_)) (fun hl H1 hxs hhl e1 h1 d1 => ?_)
    · have hi : i < as.length := (List.getElem?_eq_some_iff.mp hx).1
      obtain ⟨l, la, lxs, hli, rfl, hla, hlx⟩ := lgs_got hLs hx
      have lx := hlx.length
      rw [List.length_map] at lx
      have eg : ls.getD i [] = l := by rw [List.getD_eq_getElem?_getD, hli]; rfl
      have etk : ∀ {H9 : Hp}, Ex H1 H9 → Ev (tOp (rIxL K) (tVar 1) (tVar 3)) [some (.ref L), some (.ref tk), none, some (.int (i : Int)), some (.ref la), none, none, none, none, none, none] H9 (.int ((ts.getD i 0 : Nat) : Int)) := fun e9 => ev_op (x := .ref tk) (y := .int (i : Int)) (ev_var (i := 1) rfl) (ev_var (i := 3) rfl) (rv_ixL (K := K) (sq_of ((e1.trans e9) _ _ htk)) (atI_nat (ets (by omega))))
      refine ⟨t, _, rfl, st_of ht, rfl, _, _, rfl, _, _, rfl, rfl, k [some (.ref L), some (.ref tk), none, some (.int (i : Int)), some (.ref la), none, none, none, none, none, none] rfl (et_is (et_test (ev_op (x := .int ((ts.getD i 0 : Nat) : Int)) (y := .int (l.length : Int)) (etk (Ex.refl H1)) (ev_is (ev_cb (ea_cons (ev_var (i := 4) rfl) ea_nil) (fun H2 e2 Q' q' => ⟨la, lxs, rfl, .inl (sq_of ((e1.trans e2) _ _ hla)), q' H2 (Ex.refl H2)⟩)) (by rw [lx])) rv_I0)) ?_) (fun e he => ?_)⟩
      · rw [eg, Option.isSome_map]
        by_cases c : ts.getD i 0 < l.length
        · rw [List.getElem?_eq_getElem c, decide_eq_true (by omega)]
          rfl
        · rw [List.getElem?_eq_none (by omega), decide_eq_false (by omega)]
          rfl
      · rw [eg] at he
        obtain ⟨m, hm, rfl⟩ := Option.map_eq_some_iff.mp he
        obtain ⟨v, hv, hda⟩ := hlx.get (i := ts.getD i 0) (d := dJm m) (by rw [List.getElem?_map, hm]; rfl)
        exact es_da (ev_op (x := .ref la) (y := .int ((ts.getD i 0 : Nat) : Int)) (ev_var (i := 4) rfl) (etk (Ex.refl H1)) (rv_ixL (K := K) (sq_of (e1 _ _ hla)) (atI_nat hv))) (hda.ex e1)
    · rw [nA, fm_heads] at d1
      refine eld_lc (K := K) (σ := [some (.ref L), some (.ref tk), some (.ref hl), none, none, none, none, none, none, none, none]) (vs := [5, 6]) (fun d => (unJm d).bind fun m => if readyB ts m = true then some (dJm m) else none) (ev_var (i := 2) rfl) (sq_of h1) d1 (by
        rw [List.length_map]
        have : (headsL ls ts).length ≤ (List.range ls.length).length := List.length_filterMap_le _ _
        rw [List.length_range] at this
        omega) (fun x d H2 Q2 e2 hx hdm k => ?_) H1 (Ex.refl H1) _ fun a xs H3 ha e3 h3 hd3 => ?_
      · obtain ⟨m, hm, rfl⟩ := List.mem_map.mp hdm
        obtain ⟨l, hl', hml⟩ := heads_mem hm
        have hmo := hok.ok _ hl' _ hml
        have z6 := hmo.few
        have hir := hin _ hl' _ hml
        obtain ⟨a2, mp, c, ps, rfl, ha2, hmp, hc, hps⟩ := jm_at hx
        have lps := hps.length
        rw [List.length_map] at lps
        have htk2 := (e1.trans e2) _ _ htk
        have isS : ((unJm (dJm m)).bind fun m => if readyB ts m = true then some (dJm m) else none).isSome = readyB ts m := by
          rw [un_jm, Option.bind_some]
          cases readyB ts m <;> rfl
        refine ⟨a2, _, rfl, st_of ha2, rfl, _, _, rfl, _, _, rfl, rfl, k [some (.ref L), some (.ref tk), some (.ref hl), none, none, some c, some (.ref mp), none, none, none, none] rfl ?_ (fun e he => ?_)⟩
        · rw [isS]
          refine et_is (et_B (ev_all (bs := m.2.map fun p => decide (((ts.getD p.1.toNat 0 : Nat) : Int) = p.2.1)) (el_lcT4 (K := K) (xs := ps) (ys := (m.2.map fun p => decide (((ts.getD p.1.toNat 0 : Nat) : Int) = p.2.1)).map V.bl) (vs := [7, 8, 9, 10]) (ev_var (i := 6) rfl) (st_of hmp) (by omega) (fun _ _ _ _ => rfl) (by rw [List.length_map, List.length_map, lps]) (fun i x y H4 e4 hx' hy' => ?_)))) (by
            unfold readyB
            rw [List.all_map]
            rfl)
          obtain ⟨p, qa, u, hp, rfl, hq, hu⟩ := jps_get hps hx'
          rw [List.map_map, List.getElem?_map, hp] at hy'
          cases hy'
          obtain ⟨b0, b1⟩ := hir p (List.mem_of_getElem? hp)
          obtain ⟨n, hn⟩ : ∃ n : Nat, p.1 = (n : Int) := ⟨p.1.toNat, by omega⟩
          refine ⟨qa, _, _, _, _, rfl, e4 _ _ hq, ?_⟩
          refine ev_is (ev_op (x := .int ((ts.getD p.1.toNat 0 : Nat) : Int)) (y := .int p.2.1) (ev_op (x := .ref tk) (y := .int p.1) (ev_var (i := 1) rfl) (ev_var (i := 7) rfl) (rv_ixL (K := K) (sq_of (e4 _ _ htk2)) (by rw [hn]; exact atI_nat (ets (by omega))))) (ev_var (i := 8) rfl) (rv_eq rfl)) (by
            show V.bl _ = V.bl _
            congr 1
            exact decide_eq_decide.mpr ⟨fun z => by injection z, fun z => by rw [z]⟩)
        · have he : ((unJm (dJm m)).bind fun m => if readyB ts m = true then some (dJm m) else none) = some e := he
          rw [un_jm, Option.bind_some] at he
          by_cases c2 : readyB ts m = true
          · rw [if_pos c2] at he
            cases he
            exact es_tu (etu_2 (es_da (ev_var (i := 5) rfl) hc) (es_da (ev_var (i := 6) rfl) (da_tup hmp hps)))
          · rw [if_neg c2] at he
            cases he
      · rw [fm_ready] at hd3
        exact q a xs H3 (fresh_back e1 ha) (e1.trans e3) h3 hd3
end
end Fs

set_option Elab.async false
set_option linter.all false
set_option maxRecDepth 100000
set_option maxHeartbeats 8000000
/-! joined -/
namespace Fs
open PySem L2 Evl FsE FsC FsR FsK FsV FsD FsG
def bumpI (ts : List Nat) (k : Int) : List Nat := ts.set k.toNat (ts.getD k.toNat 0 + 1)
def bump (ts : List Nat) (m : Jm) : List Nat := (m.2.map (·.1)).foldl bumpI ts
/-- the way of joined: each time all ready meetings are the same one -/
inductive JTr (ls : List (List Jm)) : List Nat → List Jm → List Nat → Prop
  | done {ts : List Nat} : readyL ls ts = [] → JTr ls ts [] ts
  | step {ts : List Nat} {m : Jm} {ms : List Jm} {ts' : List Nat} : readyL ls ts ≠ [] → (∀ x ∈ readyL ls ts, x = m) → JTr ls (bump ts m) ms ts' → JTr ls ts (m :: ms) ts'
def lacksB (ls : List (List Jm)) (ts : List Nat) : Bool := (List.range ls.length).any fun i => decide (ts.getD i 0 < (ls.getD i []).length)
mutual
theorem alike_pl : ∀ (d : PyData), Pl d → W.alike d d = true
  | .int i, _ => by simp [W.alike]
  | .str z, _ => by simp [W.alike]
  | .tuple ds, h => by
    unfold Pl at h
    simp [W.alike, alike_plL ds h]
  | .none, h => by unfold Pl at h; exact h.elim
  | .bool _, h => by unfold Pl at h; exact h.elim
  | .list _, h => by unfold Pl at h; exact h.elim
  | .dict _, h => by unfold Pl at h; exact h.elim
theorem alike_plL : ∀ (ds : List PyData), PlL ds → W.alikeAll ds ds = true
  | [], _ => by simp [W.alikeAll]
  | d :: ds, h => by
    unfold PlL at h
    simp [W.alikeAll, alike_pl d h.1, alike_plL ds h.2]
end
theorem minD_same {d : PyData} : ∀ {ds : List PyData}, (∀ x ∈ ds, x = d) → W.minD d ds = d
  | [], _ => rfl
  | y :: ds, h => by
    have e := h y (List.mem_cons_self ..)
    subst e
    have ih := minD_same (d := y) (ds := ds) fun x hx => h x (List.mem_cons_of_mem _ hx)
    unfold W.minD at ih ⊢
    rw [List.foldl_cons]
    have : (if W.dataLt y y = true then y else y) = y := by split <;> rfl
    rw [this]
    exact ih
theorem len_bumpI {ts : List Nat} {k : Int} : (bumpI ts k).length = ts.length := List.length_set ..
theorem len_bumps {ks : List Int} : ∀ {ts : List Nat}, (ks.foldl bumpI ts).length = ts.length := by
  induction ks with
  | nil => exact rfl
  | cons k ks ih =>
    intro ts
    rw [List.foldl_cons, ih, len_bumpI]
theorem pts_of {H : Hp} : ∀ {ps : List Jp} {vs : List V}, DaL H vs (ps.map dJp) → LsA PtAt H vs (ps.map (·.1))
  | [], vs, h => by
    rw [List.map_nil] at h
    unfold DaL at h
    subst h
    trivial
  | p :: ps, vs, h => by
    rw [List.map_cons] at h
    unfold DaL at h
    obtain ⟨v, r, rfl, h1, h2⟩ := h
    obtain ⟨q, u, rfl, h3, _⟩ := jp_at h1
    exact ⟨⟨q, _, _, _, rfl, h3⟩, pts_of h2⟩
theorem mt_of {H : Hp} {v : V} {m : Jm} (h : DaAt H v (dJm m)) : MtAt H v (m.2.map (·.1)) := by
  obtain ⟨a, p, c, ps, rfl, h1, h2, _, h3⟩ := jm_at h
  exact ⟨a, p, c, ps, rfl, h1, h2, pts_of h3⟩
theorem nxt_ {D : Ends} {σ : L2.St} {H : Hp} (h : D.nx σ H) : tNext D σ H := h
theorem w_no {p q : Prop} {b : Bool} (hb : b = false) (h : q) : (if b = true then p else q) := by
  subst hb
  exact h
theorem w_yes {p q : Prop} {b : Bool} (hb : b = true) (h : p) : (if b = true then p else q) := by
  subst hb
  exact h
section
variable {σ : L2.St} {H : Hp} {te ta tb : TE} {K : PySem.W.Frag}
theorem es_minJ {l : Addr} {xs : List V} {d : PyData} {ds : List PyData} (h : Ev ta σ H (.ref l)) (hl : H l = some (.lst xs)) (hd : DaL H xs (d :: ds)) (h1 : ∀ x ∈ d :: ds, x.depth ≤ 30 ∧ x ≠ .none) (h2 : ∀ x ∈ d :: ds, ∀ y ∈ d :: ds, W.alike x y = true) :
    EvS (tCB rMinDa (tCons ta tNil)) σ H (fun v H' => DaAt H' v (W.minD d ds)) := fun H1 e Q q => h H1 e _ fun H2 e2 => ⟨l, xs, d, ds, rfl, (e.trans e2) _ _ hl, hd.ex (e.trans e2), h1, h2, fun v hv => q v H2 e2 hv⟩
theorem q_appJ {l : Addr} {xs : List V} {Pv : V → Hp → Prop} {tz : TS} {D : Ends} (hl : H l = some (.lst xs)) (ha : Ev ta σ H (.ref l)) (h : EvS te σ H Pv) (hz : xs.length < 100000) (k : ∀ v H1, Ex H H1 → Pv v H1 → tz D σ (upd H1 l (.lst (xs ++ [v])))) :
    tSeq (tDrop (tBM K "list" rAppend ta (tCons te tNil))) tz D σ H := ha H (Ex.refl H) _ fun H1 e1 =>
  ⟨.inl ⟨rfl, xs, sq_of (e1 l _ hl)⟩, h H1 e1 _ fun v H2 e2 hd => ⟨l, xs, v, rfl, rfl, e2 l _ (e1 l _ hl), sz_lt hz, k v H2 (e1.trans e2) hd⟩⟩
theorem ev_anyJ {bs : List Bool} (h : EvL te σ H (bs.map V.bl)) : Ev (tCB (rAny K) (tCons te tNil)) σ H (.bl (bs.any id)) := fun H1 e Q q =>
  h H1 e _ fun p H2 _ e2 hp => ⟨p, bs, rfl, sq_of hp, q H2 e2⟩
theorem el_repJ {xs : List V} {k : Int} (ha : EvL ta σ H xs) (hb : ∀ H1, Ex H H1 → Ev tb σ H1 (.int k)) (h0 : 0 ≤ k ∧ k ≤ 1000) (hz : xs.length ≤ 100) : EvL (tOp rRep ta tb) σ H (List.replicate k.toNat xs).flatten := fun H1 e Q q =>
  ha H1 e _ fun l H2 hl e2 h2 => hb H2 (e.trans e2) H2 (Ex.refl H2) _ fun H3 e3 => ⟨l, k, xs, rfl, rfl, e3 _ _ h2, by omega, by omega, by
    have : xs.length * k.toNat ≤ 100 * 1000 := Nat.mul_le_mul hz (by omega)
    rw [sizeLine_eq]
    omega, fun p hp => q p _ (fresh_back (e2.trans e3) hp) ((e2.trans e3).trans (Ex.new hp)) upd_same⟩
theorem el_isJ {xs ys : List V} (h : EvL te σ H xs) (e : xs = ys) : EvL te σ H ys := e ▸ h
theorem flat0 : ∀ n : Nat, (List.replicate n [V.int 0]).flatten = tsV (List.replicate n 0)
  | 0 => rfl
  | n + 1 => by
    rw [List.replicate_succ, List.flatten_cons, flat0 n, List.replicate_succ]
    show [V.int 0] ++ _ = V.int ((0 : Nat) : Int) :: _
    rfl
end
section
variable {P : Program} {w : World} {K : PySem.W.Frag} {mg : Str → Option Value} {base : Heap} {CJ C : Addr}
def spJoin (CJ C : Addr) : Sp := fun vs H Q E => ∃ (L : Addr) (ls : List (List Jm)), vs = [.ref L] ∧ LgsAt H L ls ∧ LsOk ls ∧ (¬ (EntOk ls ∧ TurnOk ls ∧ TakOk ls) → BadJ CJ H E) ∧
  (EntOk ls → TurnOk ls → TakOk ls → ∃ ms ts', JTr ls (List.replicate ls.length 0) ms ts' ∧ ms.length ≤ 100 ∧ (lacksB ls ts' = true → BadJ CJ H E) ∧
    (lacksB ls ts' = false → ∀ r mvs H2, H r = none → Ex H H2 → RnAt C H2 r mvs → DaL H2 mvs (ms.map dJm) → Q (.ref r) H2))
abbrev nsJoi : List Str := ["logs", "taken", "meetings", "ready", "machine"]
theorem scJoi : FnScope nsJoi ["logs"] (defScope (topS 14)) := ⟨rfl, rfl, rfl, by decide +kernel, rfl, by decide +kernel, by decide +kernel⟩
theorem ok_joi {f : Addr} {fd : FuncData} (F : Fun K "joined" "joined" (topS 14) f fd) (L0 : LawT K mg) (T : RunT K mg) (J : JnT K mg CJ) (GE : CalX P w K mg base (L2.CX P w) 1 "check_entries" (spEnt CJ)) (GT : CalX P w K mg base (L2.CX P w) 4 "check_turns" (spTur CJ)) (GK : CalX P w K mg base (L2.CX P w) 1 "check_takers" (spTak CJ))
    (GR : CalX P w K mg base CX0 1 "ready_meetings" spRdy) (GM : CalX P w K mg base CX0 1 "machines_in" spMach) (MR : MakX P w K mg base CX0 1 "Run" C (spRunInit K C)) : FnOk P w K mg base (L2.CX P w) 5 f fd ["logs"] (spJoin CJ C) := by
  refine F.okX (k := 4) scJoi (fun vs H Q E h => ?_) (fun cdv A outer s H vs Q E hr h => ?_)
  · obtain ⟨L, ls, rfl, _⟩ := h
    rfl
  · obtain ⟨L, ls, rfl, hL, hok, hbad, hgood⟩ := h
    refine ⟨_, pss_cons (ps_expr (pe_cx (E := fun _ => E) GE hr (by decide) (by rfl) (fun σ => passAt (W := fun cls d _ H => E cls d H) (takes_of rfl rfl rfl rfl) σ) (pa_cons (pv 0) pa_nil)))
      (pss_cons (ps_expr (pe_cx (E := fun _ => E) GT hr (by decide) (by rfl) (fun σ => passAt (W := fun cls d _ H => E cls d H) (takes_of rfl rfl rfl rfl) σ) (pa_cons (pv 0) pa_nil)))
      (pss_cons (ps_expr (pe_cx (E := fun _ => E) GK hr (by decide) (by rfl) (fun σ => passAt (W := fun cls d _ H => E cls d H) (takes_of rfl rfl rfl rfl) σ) (pa_cons (pv 0) pa_nil)))
      (pss_cons (ps_set (i := 1) scJoi.nd rfl (Or.inr rfl) (pe_op op_rep (pe_lst (pa_cons pe_int pa_nil)) (pe_callB call_len_seq (by rfl) T.len PySem.boot_len (pa_cons (pv 0) pa_nil))))
      (pss_cons (ps_set (i := 2) scJoi.nd rfl (Or.inl rfl) (pe_lst pa_nil))
      (pss_cons (ps_whileW (passes_of rfl) (ptw_truth (pew_named (i := 3) scJoi.nd rfl (Or.inl rfl) (pew_of (pe_cx (E := fun _ => E0) GR hr (by decide) (by rfl) at0 (pa_cons (pv 0) (pa_cons (pv 1) pa_nil))))))
        (pss_cons (ps_expr (pe_bm PySem.F.plainAttrs_list PySem.F.slot_list_append PySem.F.type_list_append mt_append (pv 2) (pa_cons (pe_callB (cr_minDa rfl hr.units) (by rfl) J.min (by decide +kernel) (pa_cons (pv 3) pa_nil)) pa_nil)))
        (pss_one (ps_for (passes_of rfl) rfl (pi_list (pe_cx (E := fun _ => E0) GM hr (by decide) (by rfl) at0 (pa_cons (pe_ix ix_list (pv 2) (pe_un un_neg pe_int) (fun _ _ => rfl)) pa_nil))) (pg_name (i := 4) scJoi.nd rfl (.inl rfl))
          (pss_one (ps_augS (pv 1) (pv 4) get_list pe_int ip_add set_list))))) pss_nil)
      (pss_cons (ps_if (pt_val (pe_callB (cr_any rfl) (by rfl) T.any (by decide +kernel) (pa_cons
          (pe_lc (own := [("machine", 4)]) (g := gName 4) (tt := tYes) (te := tOp (rI0 fun i j => .bl (decide (i < j))) (tOp (rIxL K) (tVar 1) (tVar 4)) (tCB (fun xs H Q => ∃ p ys, xs = [V.ref p] ∧ (SqL K H p ys ∨ SqT K H p ys) ∧ Q (.int (ys.length : Nat)) H) (tCons (tOp (rIxL K) (tVar 0) (tVar 4)) tNil))) rfl scJoi.nd (pi_range1 (by rfl) L0.range (pa_cons (pe_callB call_len_seq (by rfl) T.len PySem.boot_len (pa_cons (pv 0) pa_nil)) pa_nil)) (blkOk_by (own := [("machine", 4)]) (N := nsJoi) (sc := defScope (topS 14)) (by decide +kernel))
            (fun _ _ _ _ _ => pg_name (i := 4) scJoi.nd rfl (.inl rfl)) (fun _ _ _ _ _ => pts_nil) (fun _ _ _ _ _ => pe_cmpR op_lt (pe_ix ix_list (pv 1) (pv 4) (fun _ _ => rfl)) (pe_callB call_len_seq (by rfl) T.len PySem.boot_len (pa_cons (pe_ix ix_list (pv 0) (pv 4) (fun _ _ => rfl)) pa_nil)) (nomark _))) pa_nil)))
          (pss_one (ps_raise (W := fun cls d _ H => E cls d H) rfl (takes_of rfl rfl rfl rfl) (pmk_own0 PySem.F.excBase_ValueError J.q J.g J.k (raises_own J.s J.t) (by rfl)))) pss_nil)
      (pss_one (ps_ret (pe_mx (E := E0) MR hr (by decide) (by rfl) (fun _ _ _ _ _ _ _ h => h.elim) (pa_cons (pv 2) pa_nil)))))))))), ?_⟩
    refine ⟨_, rfl, L, ls, rfl, hL, hok, fun hE H1 e1 => ?_, fun hn => fun H1 e1 => hbad (fun z => hn z.1) H1 e1⟩
    refine ⟨_, rfl, L, ls, rfl, hL.ex e1, hok, fun hT H2 e2 => ?_, fun hn => fun H2 e2 => hbad (fun z => hn z.2.1) H2 (e1.trans e2)⟩
    refine ⟨_, rfl, L, ls, rfl, hL.ex (e1.trans e2), hok, fun hK H3 e3 => ?_, fun hn => fun H3 e3 => hbad (fun z => hn z.2.2) H3 ((e1.trans e2).trans e3)⟩
    obtain ⟨ms, ts', htr, hms, hlack, hrun⟩ := hgood hE hT hK
    have x3 : Ex H H3 := (e1.trans e2).trans e3
    have hin : InRange ls := fun l hl m hm p hp => (hT l hl m hm p hp).1
    have f10 := hok.few
    obtain ⟨as, hLa, hLs⟩ := id hL
    have nA := hLs.length
    have eln : ∀ {σ : L2.St} {H9 : Hp}, σ[0]? = some (some (.ref L)) → Ex H H9 → Ev (tCB (fun xs H Q => ∃ p ys, xs = [V.ref p] ∧ (SqL K H p ys ∨ SqT K H p ys) ∧ Q (.int (ys.length : Nat)) H) (tCons (tVar 0) tNil)) σ H9 (.int (ls.length : Int)) := fun hσ e9 => ev_is (ev_cb (ea_cons (ev_var hσ) ea_nil) (fun H2 e2 Q' q' => ⟨L, as, rfl, .inl (sq_of ((e9.trans e2) _ _ hLa)), q' H2 (Ex.refl H2)⟩)) (by rw [nA])
    refine q_asgL (i := 1) (σ := [some (.ref L), none, none, none, none]) (xs := tsV (List.replicate ls.length 0)) (el_isJ (el_repJ (xs := [.int 0]) (k := (ls.length : Int)) (el_lst (ea_cons ev_c ea_nil) (by show 1 ≤ 100000; decide)) (fun H9 e9 => eln rfl (x3.trans e9)) ⟨by omega, by omega⟩ (by show 1 ≤ 100; decide)) (flat0 ls.length)) (fun tk H4 htk e4 h4 => ?_)
    refine q_asgL (i := 2) (σ := [some (.ref L), some (.ref tk), none, none, none]) (xs := []) (el_lst ea_nil (by show 0 ≤ 100000; decide)) (fun me H5 hme e5 h5 => ?_)
    have x5 : Ex H H5 := x3.trans (e4.trans e5)
    have tkn : H tk = none := fresh_back x3 htk
    have men : H me = none := fresh_back (x3.trans e4) hme
    have ntm : tk ≠ me := fun z => by rw [z, hme] at h4; cases h4
    have htk5 := e5 _ _ h4
    refine ⟨fun n σ' H' => ∃ (ts : List Nat) (acc rest : List Jm) (mvs : List V) (v3 v4 : Option V), σ' = [some (.ref L), some (.ref tk), some (.ref me), v3, v4] ∧ Ex H H' ∧ H' tk = some (.lst (tsV ts)) ∧ ts.length = ls.length ∧ H' me = some (.lst mvs) ∧ DaL H' mvs (acc.map dJm) ∧ JTr ls ts rest ts' ∧ acc ++ rest = ms ∧ rest.length = n,
      ⟨ms.length, List.replicate ls.length 0, [], ms, [], none, none, rfl, x5, htk5, List.length_replicate, h5, DaL.nil, htr, rfl, rfl⟩, ?_⟩
    rintro n σ' H' ⟨ts, acc, rest, mvs, v3, v4, rfl, he, htk', hlen, hme', hmv, htr', hacc, hn⟩
    have lacc : mvs.length = acc.length := by rw [hmv.length, List.length_map]
    have lms : acc.length + rest.length ≤ 100 := by
      have := congrArg List.length hacc
      rw [List.length_append] at this
      omega
    refine ⟨_, rfl, _, rfl, L, tk, ls, ts, rfl, hL.ex he, hok, htk', hlen, hin, fun r rxs H6 hr6 e6 h6 d6 => ⟨!rxs.isEmpty, .inl ⟨rxs, sq_of h6, rfl⟩, ?_⟩⟩
    have x6 := he.trans e6
    cases htr' with
    | done hz =>
      rw [hz] at d6
      have hrx : rxs = [] := List.eq_nil_of_length_eq_zero (by rw [d6.length]; rfl)
      subst hrx
      refine w_no (b := !([] : List V).isEmpty) rfl ?_
      refine nxt_ ?_
      dsimp only
      rw [List.append_nil] at hacc
      subst hacc
      have bsE : ∀ {H9 : Hp}, Ex H6 H9 → EvL (tLc (iRng1 (tCons (tCB (fun xs H Q => ∃ p ys, xs = [V.ref p] ∧ (SqL K H p ys ∨ SqT K H p ys) ∧ Q (.int (ys.length : Nat)) H) (tCons (tVar 0) tNil)) tNil)) (gName 4) tYes (tOp (rI0 fun i j => .bl (decide (i < j))) (tOp (rIxL K) (tVar 1) (tVar 4)) (tCB (fun xs H Q => ∃ p ys, xs = [V.ref p] ∧ (SqL K H p ys ∨ SqT K H p ys) ∧ Q (.int (ys.length : Nat)) H) (tCons (tOp (rIxL K) (tVar 0) (tVar 4)) tNil))) [4]) [some (.ref L), some (.ref tk), some (.ref me), some (.ref r), v4] H9 (((List.range ls.length).map fun i => decide (ts'.getD i 0 < (ls.getD i []).length)).map V.bl) := fun {H9} e9 => by
        have g := el_lcRm (tn := tCons (tCB (fun xs H Q => ∃ p ys, xs = [V.ref p] ∧ (SqL K H p ys ∨ SqT K H p ys) ∧ Q (.int (ys.length : Nat)) H) (tCons (tVar 0) tNil)) tNil) (j := 4) (vs := [4]) (n := (ls.length : Int)) (σ := [some (.ref L), some (.ref tk), some (.ref me), some (.ref r), v4]) (H := H9) (te := tOp (rI0 fun i j => .bl (decide (i < j))) (tOp (rIxL K) (tVar 1) (tVar 4)) (tCB (fun xs H Q => ∃ p ys, xs = [V.ref p] ∧ (SqL K H p ys ∨ SqT K H p ys) ∧ Q (.int (ys.length : Nat)) H) (tCons (tOp (rIxL K) (tVar 0) (tVar 4)) tNil))) (fun i => V.bl (decide (ts'.getD i 0 < (ls.getD i []).length))) (ea_cons (eln rfl (x6.trans e9)) ea_nil) ⟨by omega, by omega⟩ (fun _ => rfl) (fun i H10 e10 hi => ?_)
        · rw [List.map_map]
          exact g
        · have hi' : i < ls.length := by omega
          have hli : ls[i]? = some ls[i] := List.getElem?_eq_getElem hi'
          obtain ⟨la, lxs, ha, hla, hlx⟩ := lgs_get hLs hli
          have lx := hlx.length
          rw [List.length_map] at lx
          have eg : ls.getD i [] = ls[i] := by rw [List.getD_eq_getElem?_getD, hli]; rfl
          have x10 := x6.trans (e9.trans e10)
          have et : (tsV ts')[i]? = some (.int ((ts'.getD i 0 : Nat) : Int)) := by
            have : i < ts'.length := by omega
            rw [List.getElem?_map, List.getD_eq_getElem?_getD, List.getElem?_eq_getElem this]
            rfl
          refine ev_is (ev_op (x := .int ((ts'.getD i 0 : Nat) : Int)) (y := .int (ls[i].length : Int)) (ev_op (x := .ref tk) (y := .int (i : Int)) (ev_var (i := 1) rfl) (ev_var (i := 4) rfl) (rv_ixL (K := K) (sq_of ((e6.trans (e9.trans e10)) _ _ htk')) (atI_nat et))) (ev_is (ev_cb (ea_cons (ev_op (x := .ref L) (y := .int (i : Int)) (ev_var (i := 0) rfl) (ev_var (i := 4) rfl) (rv_ixL (K := K) (sq_of (x10 _ _ hLa)) (atI_nat ha))) ea_nil) (fun H2 e2 Q' q' => ⟨la, lxs, rfl, .inl (sq_of ((x10.trans e2) _ _ hla)), q' H2 (Ex.refl H2)⟩)) (by rw [lx])) rv_I0) (by
            rw [eg]
            show V.bl _ = V.bl _
            congr 1
            exact decide_eq_decide.mpr (by omega))
      have eAny : ((List.range ls.length).map fun i => decide (ts'.getD i 0 < (ls.getD i []).length)).any id = lacksB ls ts' := by
        unfold lacksB
        rw [List.any_map]
        rfl
      refine q_when (b := lacksB ls ts') (σ := [some (.ref L), some (.ref tk), some (.ref me), some (.ref r), v4]) (et_is (et_B (ev_anyJ (bsE (Ex.refl H6)))) eAny) (fun hb H7 e7 => ?_) (fun hb H7 e7 => ?_)
      · exact hlack hb H7 (x6.trans e7)
      have hme7 := (e6.trans e7) _ _ hme'
      show tRet _ _ _ _
      refine ev_var (i := 2) rfl H7 (Ex.refl H7) _ fun H8 e8 => fun x dx hx hdx hne => ?_
      have x0 : Ex H8 (upd (upd H8 dx (.own x)) x (.ins C dx [])) := by
        intro b o hb
        rw [upd_ne (ne_of_none hb hx), upd_ne (ne_of_none hb hdx)]
        exact hb
      exact ⟨x, dx, me, mvs, H8, rfl, upd_same, hx, x0, sq_of (e8 _ _ hme7), fun H9 e9 hr => ⟨rfl, hrun hb x mvs H9 (fresh_back (x6.trans (e7.trans e8)) hx) ((x6.trans (e7.trans e8)).trans e9) hr (hmv.ex ((e6.trans e7).trans (e8.trans e9)))⟩⟩
    | @step _ m rest' _ hne hsame htl =>
      obtain ⟨r0, rr, hrl⟩ : ∃ r0 rr, readyL ls ts = r0 :: rr := by
        cases c : readyL ls ts with
        | nil => exact absurd c hne
        | cons a b => exact ⟨a, b, rfl⟩
      have hr0 : r0 = m := hsame r0 (by rw [hrl]; exact List.mem_cons_self ..)
      subst hr0
      have hmem : r0 ∈ readyL ls ts := by rw [hrl]; exact List.mem_cons_self ..
      obtain ⟨l0, hl0, hml0⟩ := heads_mem (List.mem_filter.mp hmem).1
      have hmo := hok.ok _ hl0 _ hml0
      have hir := hin _ hl0 _ hml0
      rw [hrl, List.map_cons] at d6
      have hsame' : ∀ x ∈ rr.map dJm, x = dJm r0 := fun x hx => by
        obtain ⟨y, hy, rfl⟩ := List.mem_map.mp hx
        rw [hsame y (by rw [hrl]; exact List.mem_cons_of_mem _ hy)]
      have hb : (!rxs.isEmpty) = true := by
        cases rxs with
        | nil => have := d6.length; simp at this
        | cons _ _ => rfl
      refine w_yes hb ?_
      refine ⟨fun σ'' H'' => ∃ (v3 v4 : Option V) (mvs' : List V), σ'' = [some (.ref L), some (.ref tk), some (.ref me), v3, v4] ∧ Ex H H'' ∧ H'' tk = some (.lst (tsV (bump ts r0))) ∧ H'' me = some (.lst mvs') ∧ DaL H'' mvs' ((acc ++ [r0]).map dJm), fun σ'' H'' ⟨w3, w4, mvs', q1, q2, q3, q4, q5⟩ => ⟨rest'.length, by rw [← hn]; exact Nat.lt_succ_self _, bump ts r0, acc ++ [r0], rest', mvs', w3, w4, q1, q2, q3, by unfold bump; rw [len_bumps]; exact hlen, q4, q5, htl, by rw [List.append_assoc]; exact hacc, rfl⟩, ?_⟩
      have hme6 := e6 _ _ hme'
      have htk6 := e6 _ _ htk'
      refine q_appJ (K := K) (σ := [some (.ref L), some (.ref tk), some (.ref me), some (.ref r), v4]) hme6 (ev_var (i := 2) rfl) (es_minJ (ev_var (i := 3) rfl) h6 d6 (fun x hx => ?_) (fun x hx y hy => ?_)) (by omega) (fun v H7 e7 hv => ?_)
      · have ex : x = dJm r0 := (List.mem_cons.mp hx).elim id (hsame' x)
        subst ex
        exact ⟨Nat.le_trans (pk_jm hmo).2 (by decide), by unfold dJm; exact fun z => by cases z⟩
      · have ex : x = dJm r0 := (List.mem_cons.mp hx).elim id (hsame' x)
        have ey : y = dJm r0 := (List.mem_cons.mp hy).elim id (hsame' y)
        subst ex
        rw [ey]
        exact alike_pl _ (pk_jm hmo).1
      · rw [minD_same hsame'] at hv
        have htk7 := e7 _ _ htk6
        have tkL : TK H7 (upd H7 me (.lst (mvs ++ [v]))) := tk_lst (e7 _ _ hme6)
        have x8 : Ex H (upd H7 me (.lst (mvs ++ [v]))) := Ex.mut (x6.trans e7) men
        have hv8 := hv.keep tkL
        have hmv8 : DaL (upd H7 me (.lst (mvs ++ [v]))) (mvs ++ [v]) ((acc ++ [r0]).map dJm) := by
          rw [List.map_append]
          exact DaL.snoc ((hmv.ex (e6.trans e7)).keep tkL) hv8
        have htk8 : (upd H7 me (.lst (mvs ++ [v]))) tk = some (.lst (tsV ts)) := by rw [upd_ne ntm]; exact htk7
        have hme8 : (upd H7 me (.lst (mvs ++ [v]))) me = some (.lst (mvs ++ [v])) := upd_same
        generalize upd H7 me (.lst (mvs ++ [v])) = H8 at x8 hv8 hmv8 htk8 hme8
        have eM : EvL (tCallS spMach (fun _ => E0) (tCons (tOp (rIxL K) (tVar 2) (tUn (rU fun i => .int (-i)) (tC (.int 1)))) tNil)) [some (.ref L), some (.ref tk), some (.ref me), some (.ref r), v4] H8 ((r0.2.map (·.1)).map V.int) := fun H9 e9 Q9 q9 =>
          ev_op (x := .ref me) (y := .int (-1)) (ev_var (i := 2) rfl) (ev_un (x := .int 1) ev_c ru_neg) (rv_ixL (K := K) (v := v) (sq_of hme8) (atI_last mvs v)) H9 e9 _ fun H10 e10 => ⟨v, r0.2.map (·.1), rfl, mt_of (hv8.ex (e9.trans e10)), by rw [List.length_map]; have := hmo.few; omega, fun p H11 hp e11 h11 => q9 p H11 (fresh_back e10 hp) (e10.trans e11) h11⟩
        refine s_forNL (K := K) (xs := (r0.2.map fun q : Jp => q.1).map V.int) eM (fun p j σ'' H'' => ∃ v4, σ'' = [some (.ref L), some (.ref tk), some (.ref me), some (.ref r), v4] ∧ Ex H H'' ∧ H'' tk = some (.lst (tsV (((r0.2.map fun q : Jp => q.1).take j).foldl bumpI ts))) ∧ H'' me = some (.lst (mvs ++ [v])) ∧ DaL H'' (mvs ++ [v]) ((acc ++ [r0]).map dJm) ∧ H'' p = some (.lst ((r0.2.map fun q : Jp => q.1).map V.int)) ∧ p ≠ tk)
          (fun p H9 hp e9 h9 => ⟨v4, rfl, x8.trans e9, e9 _ _ htk8, e9 _ _ hme8, hmv8.ex e9, h9, fun z => by rw [z, htk8] at hp; cases hp⟩) (fun p j σ'' H'' _ ⟨_, _, _, _, _, _, h, _⟩ => sq_of h) (fun p j x σ'' H'' hx ⟨w4, hσ, y1, y2, y3, y4, y5, y6⟩ => ?_) (fun p σ'' H'' ⟨w4, hσ, y1, y2, y3, y4, y5, y6⟩ => ?_)
        · subst hσ
          rw [List.getElem?_map] at hx
          obtain ⟨k, hk, rfl⟩ := Option.map_eq_some_iff.mp hx
          obtain ⟨pp, hpp, rfl⟩ := List.mem_map.mp (List.mem_of_getElem? hk)
          obtain ⟨b0, b1⟩ := hir pp hpp
          obtain ⟨n2, hn2⟩ : ∃ n2 : Nat, pp.1 = (n2 : Int) := ⟨pp.1.toNat, by omega⟩
          generalize hts : ((r0.2.map fun q : Jp => q.1).take j).foldl bumpI ts = ts2 at y2
          have l2 : ts2.length = ls.length := by rw [← hts, len_bumps]; exact hlen
          have hn3 : n2 < ts2.length := by omega
          have et : (tsV ts2)[n2]? = some (.int ((ts2.getD n2 0 : Nat) : Int)) := by
            rw [List.getElem?_map, List.getD_eq_getElem?_getD, List.getElem?_eq_getElem hn3]
            rfl
          refine ⟨_, rfl, _, rfl, tk, tsV ts2, n2, _, rfl, by rw [hn2], sq_of y2, et, ⟨_, _, rfl, rfl, tk, tsV ts2, pp.1, n2, rfl, rfl, y2, by rw [hn2, List.length_map]; exact ixN_nat hn3, ?_⟩⟩
          have eb : (tsV ts2).set n2 (.int (((ts2.getD n2 0 : Nat) : Int) + 1)) = tsV (((r0.2.map fun q : Jp => q.1).take (j + 1)).foldl bumpI ts) := by
            rw [List.take_add_one, hk, List.foldl_append, hts]
            show _ = tsV (bumpI ts2 pp.1)
            unfold bumpI
            rw [hn2, show ((n2 : Int)).toNat = n2 from rfl]
            show _ = (ts2.set n2 (ts2.getD n2 0 + 1)).map _
            rw [List.map_set]
            rfl
          rw [eb]
          have tkL2 : TK H'' (upd H'' tk (.lst (tsV (((r0.2.map fun q : Jp => q.1).take (j + 1)).foldl bumpI ts)))) := tk_lst y2
          exact ⟨_, rfl, Ex.mut y1 tkn, upd_same, by rw [upd_ne (fun z => ntm z.symm)]; exact y3, y4.keep tkL2, by rw [upd_ne y6]; exact y5, y6⟩
        · subst hσ
          refine ⟨_, _, _, rfl, y1, ?_, y3, y4⟩
          rw [List.length_map, List.take_length] at y2
          exact y2
end
end Fs

set_option Elab.async false
set_option linter.all false
set_option maxRecDepth 100000
set_option maxHeartbeats 2000000
/-! list(range(n)). -/
namespace FsR
open PySem PySem.Spec PyProof.Rows L2 Evl
def nums (n : Nat) : List V := (List.range n).map fun (i : Nat) => V.int (i : Int)
def tListR (ta : TA) : TE := fun σ H Q => ta σ H fun vs H1 => ∃ n : Int, vs = [.int n] ∧ 0 ≤ n ∧ n ≤ 100000 ∧ ∀ p, H1 p = none → Q (.ref p) (upd H1 p (.lst (nums n.toNat)))
theorem nums_vals : ∀ {n : Nat} {acc : List Value}, acc.length = n → (∀ (j : Nat) (v : Value), acc[j]? = some v → ∃ t, v = Value.int (j : Int) t) → Vals (nums n) acc := by
  intro n
  induction n with
  | zero =>
    intro acc h _
    cases acc with
    | nil => exact Paired.nil
    | cons a b => cases h
  | succ n ih =>
    intro acc h hv
    obtain ⟨as, a, rfl⟩ : ∃ as a, acc = as ++ [a] := by
      rcases List.eq_nil_or_concat acc with e | ⟨as, a, e⟩
      · rw [e] at h; cases h
      · exact ⟨as, a, by rw [e, List.concat_eq_append]⟩
    have hl : as.length = n := by
      rw [List.length_append] at h
      exact Nat.succ.inj h
    have e1 : nums (n + 1) = nums n ++ [.int (n : Int)] := by
      unfold nums
      rw [List.range_succ, List.map_append]
      rfl
    rw [e1]
    refine Vals.append (ih hl fun j v hj => hv j v ?_) (.cons ?_ Paired.nil)
    · rw [List.getElem?_append_left (List.getElem?_eq_some_iff.mp hj).1]
      exact hj
    · obtain ⟨t, ht⟩ := hv n a (by rw [List.getElem?_append_right (by omega), hl, Nat.sub_self]; rfl)
      exact ⟨t, ht⟩
theorem pe_listR {X : Cx} {e : Expr} {ta : TA} {p1 p2 pos cpos : Pos} (hc : X.calm = true) (he : PA X [e] ta) (hg : Gl X "list") (hm : X.mg "list" = none) (hv : bootBuiltins "list" = some (.type "list")) (hg2 : Gl X "range") (hm2 : X.mg "range" = none)
    (hs : starEach [.Call (.Name "range" p2) [e] [] cpos] X.env = (false, eval (.Call (.Name "range" p2) [e] [] cpos) X.env) :: starEach [] X.env := by rfl) (hs2 : starEach [e] X.env = [(false, eval e X.env)] := by rfl) :
    PE X (.Call (.Name "list" p1) [.Call (.Name "range" p2) [e] [] cpos] [] pos) (tListR ta) := by
  refine ⟨fun pins s σ H Q I h => ?_⟩
  refine wpAny_Call_Name_kw (ld_blt I hg hm hv ?_)
  refine PyProof.Rows.callWith_type1 ?_ hs rfl
  rw [hs]
  show wpAny _ _ (spliced ((false, eval (.Call (.Name "range" p2) [e] [] cpos) X.env) :: backTo pos (starEach [] X.env))) _ _ s
  refine Calls.spliced_cons ?_
  refine Call_ (ld_blt I hg2 hm2 boot_range (PyProof.Rows.callWith_type1 (thn (he.run cpos pins s σ H _ I h) fun us s1 ⟨vs, H1, I1, r1, n, e1, z0, z1, q⟩ => ?_) hs2 rfl))
  subst e1
  cases r1 with
  | cons r rr =>
    cases rr
    obtain ⟨t, rfl⟩ := r
    refine call_range_1 ?_
    have I2 : Inv X pins σ H1 { s1 with heap := s1.heap.push { cls := .type "range", data := .fields #[.int 0 s1.toks, .int n t, .int 1 (s1.toks + 1)] }, toks := s1.toks + 1 + 1 } := I1.kept fun b o e => Heap.get?_push_of_some _ e
    refine Calls.spliced_nil ?_
    obtain ⟨m, rfl⟩ : ∃ m : Nat, n = (m : Int) := ⟨n.toNat, by omega⟩
    refine call_list_range (n := m) (I2.ok.hd hc) (IsRange.new ..) (small_one (by decide) (by decide) (by omega) (by omega)) (by rw [rangeSize_one]; split <;> omega) (by omega) (fun h' tk acc c' kp e ⟨hz, hi⟩ => ?_)
    have hv : Vals (nums m) acc.toList := nums_vals (by rw [Array.length_toList]; exact hz) fun j v hj => by
      rw [Array.getElem?_toList] at hj
      obtain ⟨t, ht⟩ := hi j v hj
      exact ⟨t, by rw [ht]; simp⟩
    have hzl : (nums m).length ≤ sizeLine := by
      unfold nums
      rw [List.length_map, List.length_range]
      exact sz_of (by omega)
    refine ⟨.ref _, _, I2.laid (t' := tk) kp (Nat.le_refl _) (show ObjOk X.prog X.w _ h' _ (.lst (nums m)) from ⟨hzl, acc.toList, c', hv, by rw [Array.toArray_toList]; exact e⟩), rfl, q _ (I2.hok.fresh (Nat.le_refl _))⟩
theorem el_listR {σ : L2.St} {H : Hp} {ta : TA} {n : Nat} (h : EvA ta σ H [.int (n : Int)]) (hn : n ≤ 100000) : EvL (tListR ta) σ H (nums n) := fun H1 e Q q => h H1 e _ fun H2 e2 => ⟨(n : Int), rfl, by omega, by omega, fun p hp => q p _ (fresh_back e2 hp) (e2.trans (Ex.new hp)) upd_same⟩
/-- xs + ys, both lists -/
theorem el_cat {σ : L2.St} {H : Hp} {ta tb : TE} {xs ys : List V} (ha : EvL ta σ H xs) (hb : EvL tb σ H ys) (hz : xs.length + ys.length ≤ 100000) : EvL (tOp rCat ta tb) σ H (xs ++ ys) := fun H1 e Q q =>
  ha H1 e _ fun p H2 hp e2 h2 => hb H2 (e.trans e2) _ fun r H3 hr e3 h3 => ⟨p, r, xs, ys, rfl, rfl, e3 _ _ h2, h3, sz_of (by omega), fun u hu => q u _ (fresh_back (e2.trans e3) hu) ((e2.trans e3).trans (Ex.new hu)) upd_same⟩
end FsR

set_option Elab.async false
set_option linter.all false
set_option maxRecDepth 100000
set_option maxHeartbeats 8000000
/-! the law's machines and meetings -/
namespace Fs
open PySem L2 Evl FsE FsC FsR FsK FsV FsD FsG
theorem row_getJ {row : List Int} {i : Nat} (hrow : RowOk row) (h : i < row.length) : ∃ v, row[i]? = some v ∧ 0 ≤ v ∧ v < 1000 :=
  ⟨row[i], List.getElem?_eq_getElem h, hrow _ (List.getElem_mem h)⟩
section
variable {σ : L2.St} {H : Hp} {te ta tb : TE}
theorem ev_ixJ {K : PySem.W.Frag} {l : Addr} {xs : List Int} {j : Nat} {v : Int} (ha : Ev ta σ H (.ref l)) (hb : Ev tb σ H (.int (j : Int))) (hl : H l = some (.lst (xs.map V.int))) (hj : xs[j]? = some v) : Ev (tOp (rIxL K) ta tb) σ H (.int v) :=
  ev_op ha hb (rv_ixL (sq_of hl) (atI_nat (by rw [List.getElem?_map, hj]; rfl)))
theorem ev_intJ {K : PySem.W.Frag} {i : Int} (h : Ev ta σ H (.int i)) : Ev (tCB (fun xs H Q => (∃ i, xs = [V.int i] ∧ Q (.int i) H) ∨ ∃ k, xs = [V.bl k] ∧ Q (.int (if k then 1 else 0)) H) (tCons ta tNil)) σ H (.int i) := ev_cb (ea_cons h ea_nil) (rc_int (K := K))
theorem ev_intB (K : PySem.W.Frag) {b : Bool} (h : Ev ta σ H (.bl b)) : Ev (tCB (fun xs H Q => (∃ i, xs = [V.int i] ∧ Q (.int i) H) ∨ ∃ k, xs = [V.bl k] ∧ Q (.int (if k then 1 else 0)) H) (tCons ta tNil)) σ H (.int (if b = true then 1 else 0)) := ev_cb (ea_cons h ea_nil) (fun H2 e2 Q' q' => .inr ⟨b, rfl, q' H2 (Ex.refl H2)⟩)
end
theorem erase_mapJ {α β : Type} (f : α → β) : ∀ (xs : List α) (k : Nat), (xs.map f).eraseIdx k = (xs.eraseIdx k).map f
  | [], _ => rfl
  | x :: xs, 0 => rfl
  | x :: xs, k + 1 => by
    rw [List.map_cons, List.eraseIdx_cons_succ, List.eraseIdx_cons_succ, List.map_cons, erase_mapJ f xs k]
theorem perm_eraseJ : ∀ {xs : List Int} {k : Nat} {x : Int}, xs[k]? = some x → (x :: xs.eraseIdx k).Perm xs
  | [], _, _, h => by simp at h
  | y :: xs, 0, x, h => by
    cases h
    exact List.Perm.refl _
  | y :: xs, k + 1, x, h => by
    rw [List.eraseIdx_cons_succ]
    exact (List.Perm.swap y x _).trans (List.Perm.cons y (perm_eraseJ (xs := xs) (k := k) h))
/-- [e for k in range(n)], e may change what it likes -/
theorem lc_rng {σ : L2.St} {H : Hp} {tn : TA} {te : TE} {j : Nat} {vs : List Nat} {n : Nat} {Q : VK} (hn : EvA tn σ H [.int (n : Int)]) (hb : n ≤ 100000) (Pv : Addr → Nat → Hp → Prop) (h0 : ∀ D H1, Ex H H1 → H1 D = none → Pv D 0 (upd H1 D (.lst [])))
    (hw : ∀ x, wipe ((wipe σ vs).set j (some x)) vs = wipe σ vs) (hs : ∀ D i H', i < n → Pv D i H' → te ((wipe σ vs).set j (some (.int (i : Int)))) H' fun y H4 => ∃ acc, H4 D = some (.lst acc) ∧ acc.length < sizeLine ∧ Pv D (i + 1) (upd H4 D (.lst (acc ++ [y])))) (hd : ∀ D H', Pv D n H' → Q (.ref D) H') :
    tLc (iRng1 tn) (gName j) tYes te vs σ H Q := hn H (Ex.refl H) _ fun H1 e1 => ⟨(n : Int), rfl, by omega, by omega, fun D hD =>
  lc_range (lo := 0) (n := n) (Pv D) (h0 D H1 e1 hD) (fun i H' hi p => by
    have e0 : (0 : Int) + (i : Int) = (i : Int) := Int.zero_add _
    show wipe ((wipe σ vs).set j (some (.int ((0 : Int) + (i : Int))))) vs = wipe σ vs ∧ (if true = true then te ((wipe σ vs).set j (some (.int ((0 : Int) + (i : Int))))) H' fun y H4 => ∃ acc, H4 D = some (.lst acc) ∧ acc.length < sizeLine ∧ Pv D (i + 1) (upd H4 D (.lst (acc ++ [y]))) else Pv D (i + 1) H')
    rw [e0, if_pos rfl]
    exact ⟨hw _, hs D i H' hi p⟩) (fun H' p => hd D H' p)⟩
theorem rt_ {te : TE} {D : Ends} {σ : L2.St} {H : Hp} (h : te σ H D.rt) : tRet te D σ H := h
/-- the machines drawn: all below n, in some order -/
structure MachOk (n : Nat) (ms : List Int) : Prop where
  lo : 3 ≤ n
  hi : n ≤ 6
  perm : ms.Perm ((List.range n).map fun i : Nat => (i : Int))
section
variable {P : Program} {w : World} {K : PySem.W.Frag} {mg : Str → Option Value} {base : Heap} {CJ C : Addr}
def spMas : Sp := fun vs H Q _ => ∃ (r : Addr) (row : List Int), vs = [.ref r] ∧ H r = some (.lst (row.map V.int)) ∧ row.length = 16 ∧ RowOk row ∧ ∀ n ms, MachOk n ms → RetL (ms.map V.int) H Q
abbrev nsMas : List Str := ["_law_row_here", "_law_left", "_law_k"]
theorem scMas : FnScope nsMas ["_law_row_here"] (defScope (topS 24)) := ⟨rfl, rfl, rfl, by decide +kernel, rfl, by decide +kernel, by decide +kernel⟩
theorem ok_mas {f : Addr} {fd : FuncData} (F : Fun K "_law_machines" "_law_machines" (topS 24) f fd) (L : LawT K mg) (hlist : mg "list" = none) : FnOk P w K mg base CX0 1 f fd ["_law_row_here"] spMas := by
  refine F.ok (k := 0) scMas (fun vs H Q E h => ?_) (fun cdv A outer s H vs Q E hr h => ?_)
  · obtain ⟨r, row, rfl, _⟩ := h
    rfl
  · obtain ⟨r, row, rfl, hrl, h16, hrow, q⟩ := h
    refine ⟨_, pss_cons (ps_set (i := 1) scMas.nd rfl (Or.inr rfl) (pe_listR rfl (pa_cons (pe_op op_add pe_int (pe_op op_mod (pe_callTy call_int1 (by rfl) L.int (by decide +kernel) (pa_cons (pe_ix ix_list (pv 0) pe_int (fun _ _ => rfl)) pa_nil)) pe_int)) pa_nil) (by rfl) hlist (by decide +kernel) (by rfl) L.range))
      (pss_one (ps_ret (pe_lc (own := [("_law_k", 2)]) (g := gName 2) (tt := tYes) (te := tBM K "list" rPopAt (tVar 1) (tCons (tOp (rI (fun _ j => 0 < j) fun i j => .int (i % j)) (tCB (fun xs H Q => (∃ i, xs = [V.int i] ∧ Q (.int i) H) ∨ ∃ k, xs = [V.bl k] ∧ Q (.int (if k then 1 else 0)) H) (tCons (tOp (rIxL K) (tVar 0) (tOp (rI0 fun i j => .int (i + j)) (tC (.int 1)) (tVar 2))) tNil)) (tCB (fun xs H Q => ∃ p ys, xs = [V.ref p] ∧ (SqL K H p ys ∨ SqT K H p ys) ∧ Q (.int (ys.length : Nat)) H) (tCons (tVar 1) tNil))) tNil)) rfl scMas.nd (pi_range1 (by rfl) L.range (pa_cons (pe_callB call_len_seq (by rfl) L.len PySem.boot_len (pa_cons (pv 1) pa_nil)) pa_nil)) (blkOk_by (own := [("_law_k", 2)]) (N := nsMas) (sc := defScope (topS 24)) (by decide +kernel))
        (fun _ _ _ _ _ => pg_name (i := 2) scMas.nd rfl (.inl rfl)) (fun _ _ _ _ _ => pts_nil)
        (fun _ _ _ _ _ => pe_bm PySem.F.plainAttrs_list PySem.F.slot_list_pop PySem.F.type_list_pop mt_popAt (pv 1) (pa_cons (pe_op op_mod (pe_callTy call_int1 (by rfl) L.int (by decide +kernel) (pa_cons (pe_ix ix_list (pv 0) (pe_op op_add pe_int (pv 2)) (fun _ _ => rfl)) pa_nil)) (pe_callB call_len_seq (by rfl) L.len PySem.boot_len (pa_cons (pv 1) pa_nil))) pa_nil))))), ?_⟩
    obtain ⟨v0, a0, b0, c0⟩ := row_getJ (i := 0) hrow (by omega)
    have hv4 : 0 ≤ v0 % 4 ∧ v0 % 4 < 4 := ⟨Int.emod_nonneg _ (by decide), Int.emod_lt_of_pos _ (by decide)⟩
    obtain ⟨n, hn⟩ : ∃ n : Nat, 3 + v0 % 4 = (n : Int) := ⟨(3 + v0 % 4).toNat, by omega⟩
    have n3 : 3 ≤ n := by omega
    have n6 : n ≤ 6 := by omega
    refine q_asgL (i := 1) (σ := [some (.ref r), none, none]) (xs := nums n) (el_listR (ea_cons (ev_is (ev_op (x := .int 3) (y := .int (v0 % 4)) ev_c (ev_op (x := .int v0) (y := .int 4) (ev_intJ (K := K) (ev_ixJ (j := 0) (ev_var (i := 0) rfl) ev_c hrl a0)) ev_c (rv_I (by decide))) rv_I0) (by rw [hn])) ea_nil) (by omega)) (fun lf H1 hlf e1 h1 => ?_)
    have lnn : (nums n).length = n := by unfold nums; rw [List.length_map, List.length_range]
    have hr1 := e1 _ _ hrl
    have nrl : r ≠ lf := fun z => by rw [z, hlf] at hrl; cases hrl
    have eln : ∀ {H9 : Hp} {xs : List V} {σ : L2.St}, σ[1]? = some (some (.ref lf)) → H9 lf = some (.lst xs) → Ev (tCB (fun xs H Q => ∃ p ys, xs = [V.ref p] ∧ (SqL K H p ys ∨ SqT K H p ys) ∧ Q (.int (ys.length : Nat)) H) (tCons (tVar 1) tNil)) σ H9 (.int (xs.length : Nat)) := fun {H9 xs σ} hσ h9 => ev_cb (ea_cons (ev_var hσ) ea_nil) (fun H2 e2 Q' q' => ⟨lf, xs, rfl, .inl (sq_of (e2 _ _ h9)), q' H2 (Ex.refl H2)⟩)
    refine rt_ ?_
    have x1 := e1
    refine lc_rng (n := n) (ea_cons (ev_is (eln rfl h1) (by rw [lnn])) ea_nil) (by omega) (fun D i H' => D ≠ lf ∧ H D = none ∧ Ex H H' ∧ ∃ acc left : List Int, H' D = some (.lst (acc.map V.int)) ∧ H' lf = some (.lst (left.map V.int)) ∧ acc.length = i ∧ (acc ++ left).Perm ((List.range n).map fun i : Nat => (i : Int)))
      (fun D H2 e2 hD => ?_) (fun _ => rfl) (fun D i H' hi ⟨nd, hDn, he, acc, left, hd, hl, hlen, hp⟩ => ?_) (fun D H' ⟨nd, hDn, he, acc, left, hd, hl, hlen, hp⟩ => ?_)
    · have h2 := e2 _ _ h1
      have nDl : D ≠ lf := fun z => by rw [z, h2] at hD; cases hD
      refine ⟨nDl, fresh_back (e1.trans e2) hD, (e1.trans e2).trans (Ex.new hD), [], (List.range n).map fun i : Nat => (i : Int), upd_same, ?_, rfl, List.Perm.refl _⟩
      rw [upd_ne (fun z => nDl z.symm), h2]
      unfold nums
      rw [List.map_map]
      rfl
    · have lsum := hp.length_eq
      rw [List.length_append, List.length_map, List.length_range, hlen] at lsum
      have lpos : 0 < left.length := by omega
      obtain ⟨d, ad, bd, cd⟩ := row_getJ (i := 1 + i) hrow (by omega)
      obtain ⟨k, hk⟩ : ∃ k : Nat, d % (left.length : Int) = (k : Int) := ⟨(d % (left.length : Int)).toNat, by have := Int.emod_nonneg d (b := (left.length : Int)) (by omega); omega⟩
      have hkl : k < left.length := by have := Int.emod_lt_of_pos d (b := (left.length : Int)) (by omega); omega
      have hlk : left[k]? = some left[k] := List.getElem?_eq_getElem hkl
      have hr' := he _ _ hrl
      have ehl : H' lf = some (.lst (left.map V.int)) := hl
      refine ⟨_, rfl, .inl ⟨rfl, _, sq_of ehl⟩, ?_⟩
      refine ea_cons (ev_op (x := .int d) (y := .int (left.length : Int)) (σ := [some (.ref r), some (.ref lf), some (.int (i : Int))]) (H := H') (ev_intJ (K := K) (ev_ixJ (K := K) (j := 1 + i) (ev_var (i := 0) rfl) (ev_is (ev_op (x := .int 1) (y := .int (i : Int)) ev_c (ev_var (i := 2) rfl) rv_I0) (by rw [show ((1 + i : Nat) : Int) = 1 + (i : Int) by omega])) hr' ad)) (ev_is (eln rfl ehl) (by rw [List.length_map])) (rv_I (show (0 : Int) < (left.length : Int) by omega))) ea_nil H' (Ex.refl H') _ fun H3 e3 => ?_
      refine ⟨lf, left.map V.int, d % (left.length : Int), k, .int left[k], rfl, rfl, e3 _ _ ehl, by omega, by omega, by rw [List.length_map, hk]; exact seqIndex_of (by omega) (by omega), by rw [List.getElem?_map, hlk]; rfl, ?_⟩
      have hD3 : (upd H3 lf (.lst ((left.map V.int).eraseIdx k))) D = some (.lst (acc.map V.int)) := by rw [upd_ne nd]; exact e3 _ _ hd
      have x4 : Ex H (upd H3 lf (.lst ((left.map V.int).eraseIdx k))) := Ex.mut (he.trans e3) hlf
      refine ⟨acc.map V.int, hD3, by rw [List.length_map, sizeLine_eq]; omega, nd, hDn, Ex.mut x4 hDn, acc ++ [left[k]], left.eraseIdx k, ?_, ?_, by rw [List.length_append, hlen]; rfl, ?_⟩
      · rw [upd_same, List.map_append]
        rfl
      · rw [upd_ne (fun z => nd z.symm), upd_same]
        congr 2
        exact erase_mapJ V.int left k
      · refine List.Perm.trans ?_ hp
        rw [List.append_assoc]
        refine List.Perm.append_left acc ?_
        exact perm_eraseJ hlk
    · have lsum := hp.length_eq
      rw [List.length_append, List.length_map, List.length_range, hlen] at lsum
      have : left = [] := List.eq_nil_of_length_eq_zero (by omega)
      subst this
      rw [List.append_nil] at hp
      exact q n acc ⟨n3, n6, hp⟩ D H' hDn he hd
end
end Fs

set_option Elab.async false
set_option linter.all false
set_option maxRecDepth 100000
set_option maxHeartbeats 8000000
/-! _law_meeting, _law_links -/
namespace Fs
open PySem L2 Evl FsE FsC FsR FsK FsV FsD FsG
def paJ (m t d : Int) : Jp := (m, t, d % 3, .int (d - 400))
def pbJ (m t d : Int) : Jp := (m, t, d / 3 % 3, .int (d / 2))
def linkJ (a ta b tb num d : Int) : Jm := (.tuple [.int (d / 18 % 3), .int num, .int 2], if d / 9 % 2 = 1 then [pbJ b tb d, paJ a ta d] else [paJ a ta d, pbJ b tb d])
theorem link_ok (a ta b tb num d : Int) : JmOk (linkJ a ta b tb num d) := by
  have hp : ∀ p ∈ (linkJ a ta b tb num d).2, p = pbJ b tb d ∨ p = paJ a ta d := fun p hp => by
    unfold linkJ at hp
    dsimp only at hp
    split at hp
    · simpa using hp
    · exact (by simpa using hp : p = paJ a ta d ∨ p = pbJ b tb d).symm
  refine ⟨?_, ?_, fun p h => ?_⟩
  · refine Pk.mono (j := 1) (Pk.tup fun d hd => ?_) (by decide)
    simp only [List.mem_cons, List.not_mem_nil, or_false] at hd
    rcases hd with rfl | rfl | rfl <;> exact Pk.int
  · unfold linkJ
    dsimp only
    split <;> exact (show 2 ≤ 6 by decide)
  · rcases hp p h with rfl | rfl <;> exact Pk.int
section
variable {σ : L2.St} {H : Hp} {te ta tb tc : TE} {K : PySem.W.Frag}
theorem es_intJ {i : Int} (h : Ev te σ H (.int i)) : EvS te σ H (fun v H' => DaAt H' v (.int i)) := fun H1 e Q q => h H1 e _ fun H2 e2 => q _ H2 e2 da_int
theorem eld_2J {d e : PyData} (h : EvS ta σ H (fun v H' => DaAt H' v d)) (g : EvS tb σ H (fun v H' => DaAt H' v e)) : EvLD (tLst (tCons ta (tCons tb tNil))) σ H [d, e] := fun H1 e1 Q q =>
  h H1 e1 _ fun v H2 e2 hd => g H2 (e1.trans e2) _ fun u H3 e3 he => ⟨by show 2 ≤ sizeLine; decide, fun p hp => q p _ _ (fresh_back (e2.trans e3) hp) ((e2.trans e3).trans (Ex.new hp)) upd_same (DaL.cons (hd.ex (e3.trans (Ex.new hp))) (DaL.cons (he.ex (Ex.new hp)) DaL.nil))⟩
theorem etu_3J {d e f : PyData} (h : EvS ta σ H (fun v H' => DaAt H' v d)) (g : EvS tb σ H (fun v H' => DaAt H' v e)) (k : EvS tc σ H (fun v H' => DaAt H' v f)) : EvTu (tTup (tCons ta (tCons tb (tCons tc tNil)))) σ H [d, e, f] := fun H1 e1 Q q =>
  h H1 e1 _ fun v H2 e2 hd => g H2 (e1.trans e2) _ fun u H3 e3 he => k H3 ((e1.trans e2).trans e3) _ fun z H4 e4 hz => ⟨by show 3 ≤ sizeLine; decide, fun p hp => q p _ _ ((e2.trans (e3.trans e4)).trans (Ex.new hp)) upd_same (DaL.cons (hd.ex ((e3.trans e4).trans (Ex.new hp))) (DaL.cons (he.ex (e4.trans (Ex.new hp))) (DaL.cons (hz.ex (Ex.new hp)) DaL.nil)))⟩
theorem dal_rev {H : Hp} : ∀ {ds : List PyData} {xs : List V}, DaL H xs ds → DaL H xs.reverse ds.reverse
  | [], xs, h => by
    unfold DaL at h
    subst h
    exact DaL.nil
  | d :: ds, xs, h => by
    unfold DaL at h
    obtain ⟨v, vs, rfl, h1, h2⟩ := h
    rw [List.reverse_cons, List.reverse_cons]
    exact DaL.snoc (dal_rev h2) h1
theorem eld_rev {l : Addr} {xs : List V} {ds : List PyData} (h : Ev te σ H (.ref l)) (hl : H l = some (.lst xs)) (hd : DaL H xs ds) : EvLD (tRevL K te) σ H ds.reverse := fun H1 e Q q =>
  h H1 e _ fun H2 e2 => ⟨l, xs, rfl, sq_of ((e.trans e2) _ _ hl), fun p hp => q p _ _ (fresh_back e2 hp) (e2.trans (Ex.new hp)) upd_same (dal_rev (hd.ex ((e.trans e2).trans (Ex.new hp))))⟩
theorem es_tupL {l : Addr} {xs : List V} {ds : List PyData} (h : Ev te σ H (.ref l)) (hl : H l = some (.lst xs)) (hd : DaL H xs ds) : EvS (tCB (fun xs H Q => ∃ p ys, xs = [V.ref p] ∧ ((SqL K H p ys ∧ ∀ l, H l = none → Q (.ref l) (upd H l (.tup ys))) ∨ (SqT K H p ys ∧ Q (.ref p) H))) (tCons te tNil)) σ H (fun v H' => DaAt H' v (.tuple ds)) := fun H1 e Q q =>
  eu_tupL (K := K) (h) (sq_of hl) H1 e _ fun t H2 ht e2 h2 => q _ H2 e2 (da_tup h2 (hd.ex (e.trans e2)))
end
section
variable {P : Program} {w : World} {K : PySem.W.Frag} {mg : Str → Option Value} {base : Heap} {CJ C : Addr}
def RetDa (d : PyData) (H : Hp) (Q : VK) : Prop := ∀ v H', Ex H H' → DaAt H' v d → Q v H'
def spMet : Sp := fun vs H Q _ => ∃ (v1 v2 : V) (a ta b tb num d : Int), vs = [v1, v2, .int num, .int d] ∧ DaAt H v1 (.tuple [.int a, .int ta]) ∧ DaAt H v2 (.tuple [.int b, .int tb]) ∧ RetDa (dJm (linkJ a ta b tb num d)) H Q
abbrev nsMet : List Str := ["_law_first", "_law_second", "_law_number", "_law_draw", "_law_parts"]
theorem scMet : FnScope nsMet ["_law_first", "_law_second", "_law_number", "_law_draw"] (defScope (topS 25)) := ⟨rfl, rfl, rfl, by decide +kernel, rfl, by decide +kernel, by decide +kernel⟩
theorem ok_met {f : Addr} {fd : FuncData} (F : Fun K "_law_meeting" "_law_meeting" (topS 25) f fd) (L : LawT K mg) (T : RunT K mg) : FnOk P w K mg base CX0 1 f fd ["_law_first", "_law_second", "_law_number", "_law_draw"] spMet := by
  refine F.ok (k := 0) scMet (fun vs H Q E h => ?_) (fun cdv A outer s H vs Q E hr h => ?_)
  · obtain ⟨v1, v2, a, ta, b, tb, num, d, rfl, _⟩ := h
    rfl
  · obtain ⟨v1, v2, a, ta, b, tb, num, d, rfl, h1, h2, q⟩ := h
    refine ⟨_, pss_cons (ps_set (i := 4) scMet.nd rfl (Or.inl rfl) (pe_lst (pa_cons (pe_op op_catA (pv 0) (pe_tup (pa_cons (pe_op op_mod (pe_callTy call_int1 (by rfl) L.int (by decide +kernel) (pa_cons (pv 3) pa_nil)) pe_int) (pa_cons (pe_op op_sub (pv 3) pe_int) pa_nil))))
        (pa_cons (pe_op op_catA (pv 1) (pe_tup (pa_cons (pe_op op_mod (pe_op op_fdiv (pv 3) pe_int) pe_int) (pa_cons (pe_op op_fdiv (pv 3) pe_int) pa_nil)))) pa_nil))))
      (pss_cut (ps_if (pt_cmpR op_eq (pe_op op_mod (pe_op op_fdiv (pv 3) pe_int) pe_int) pe_int (nomark _)) (pss_one (ps_set (i := 4) scMet.nd rfl (Or.inl rfl) (pe_revL (pv 4)))) pss_nil)
      (pss_one (ps_ret (pe_tup (pa_cons (pe_tup (pa_cons (pe_op op_mod (pe_op op_fdiv (pv 3) pe_int) pe_int) (pa_cons (pv 2) (pa_cons pe_int pa_nil)))) (pa_cons (pe_callTy call_tuple_of (by rfl) T.tuple (by decide +kernel) (pa_cons (pv 4) pa_nil)) pa_nil)))))), ?_⟩
    have ed : ∀ {σ : L2.St} {H9 : Hp} {k m : Int}, 0 < m ∧ 0 < k ∧ k < 1073741824 → σ[3]? = some (some (.int d)) → Ev (tOp (rI (fun _ j => 0 < j) fun i j => .int (i % j)) (tOp (rI CDiv fun i j => .int (i / j)) (tVar 3) (tC (.int k))) (tC (.int m))) σ H9 (.int (d / k % m)) := fun hk hσ => ev_op (x := .int (d / _)) (ev_op (x := .int d) (ev_var hσ) ev_c (rv_I ⟨hk.2.1, hk.2.2⟩)) ev_c (rv_I hk.1)
    refine q_asgLD (i := 4) (σ := [some v1, some v2, some (.int num), some (.int d), none]) (ds := [dJp (paJ a ta d), dJp (pbJ b tb d)]) (eld_2J
      (es_tu (etu_cat (K := K) (ds := [.int a, .int ta]) (es := [.int (d % 3), .int (d - 400)]) (etu_da (ev_var (i := 0) rfl) h1) (etu_2 (es_intJ (ev_op (x := .int d) (ev_intJ (K := K) (ev_var (i := 3) rfl)) ev_c (rv_I (by decide)))) (es_intJ (ev_op (x := .int d) (ev_var (i := 3) rfl) ev_c rv_I0))) (by show 2 + 2 ≤ 1000; decide)))
      (es_tu (etu_cat (K := K) (ds := [.int b, .int tb]) (es := [.int (d / 3 % 3), .int (d / 2)]) (etu_da (ev_var (i := 1) rfl) h2) (etu_2 (es_intJ (ed ⟨by decide, by decide, by decide⟩ rfl)) (es_intJ (ev_op (x := .int d) (ev_var (i := 3) rfl) ev_c (rv_I ⟨by decide, by decide⟩)))) (by show 2 + 2 ≤ 1000; decide)))) (fun pl H1 xs hpl e1 hl1 hd1 => ?_)
    refine q_cut (M := fun σ' H' => ∃ (p2 : Addr) (ys : List V), σ' = [some v1, some v2, some (.int num), some (.int d), some (.ref p2)] ∧ Ex H H' ∧ H' p2 = some (.lst ys) ∧ DaL H' ys ((linkJ a ta b tb num d).2.map dJp)) ?_ (fun σ' H' ⟨p2, ys, hσ, he, hl2, hd2⟩ => ?_)
    · refine s_when (b := decide (V.int (d / 9 % 2) = V.int 1)) (σ := [some v1, some v2, some (.int num), some (.int d), some (.ref pl)]) (et_test (ev_op (x := .int (d / 9 % 2)) (y := .int 1) (ed ⟨by decide, by decide, by decide⟩ rfl) ev_c (rv_eq rfl))) (fun hb H2 e2 => ?_) (fun hb H2 e2 => ?_)
      · have c : d / 9 % 2 = 1 := by
          have := of_decide_eq_true hb
          injection this
        refine s_asgLD (i := 4) (eld_rev (K := K) (ev_var (i := 4) rfl) (e2 _ _ hl1) (hd1.ex e2)) (fun p2 H3 ys hp2 e3 hl3 hd3 => ⟨p2, ys, rfl, (e1.trans e2).trans e3, hl3, ?_⟩)
        unfold linkJ
        dsimp only
        rw [if_pos c]
        exact hd3
      · have c : ¬ d / 9 % 2 = 1 := fun z => by
          rw [z] at hb
          exact absurd hb (by decide)
        refine ⟨pl, xs, rfl, e1.trans e2, e2 _ _ hl1, ?_⟩
        unfold linkJ
        dsimp only
        rw [if_neg c]
        exact hd1.ex e2
    · subst hσ
      refine rt_ ?_
      refine es_tu (etu_2 (es_tu (etu_3J (es_intJ (ed (k := 18) (m := 3) ⟨by decide, by decide, by decide⟩ rfl)) (es_intJ (ev_var (i := 2) rfl)) (es_intJ ev_c))) (es_tupL (K := K) (ev_var (i := 4) rfl) hl2 hd2)) H' (Ex.refl H') _ fun v H2 e2 hv => q v H2 (he.trans e2) hv
theorem es_met {σ : L2.St} {H : Hp} {t1 t2 tn td : TE} {E : L2.St → XK} {a ta b tb num d : Int} (h1 : EvS t1 σ H (fun v H' => DaAt H' v (.tuple [.int a, .int ta]))) (h2 : EvS t2 σ H (fun v H' => DaAt H' v (.tuple [.int b, .int tb]))) (hn : Ev tn σ H (.int num)) (hd : Ev td σ H (.int d)) :
    EvS (tCallS spMet E (tCons t1 (tCons t2 (tCons tn (tCons td tNil))))) σ H (fun v H' => DaAt H' v (dJm (linkJ a ta b tb num d))) := fun H1 e Q q =>
  h1 H1 e _ fun v1 H2 e2 d1 => h2 H2 (e.trans e2) _ fun v2 H3 e3 d2 => hn H3 ((e.trans e2).trans e3) _ fun H4 e4 => hd H4 (((e.trans e2).trans e3).trans e4) _ fun H5 e5 =>
    ⟨v1, v2, a, ta, b, tb, num, d, rfl, d1.ex ((e3.trans e4).trans e5), d2.ex (e4.trans e5), fun v H6 e6 hv => q v H6 ((((e2.trans e3).trans e4).trans e5).trans e6) hv⟩
/-- the links of a ring, or of a chain -/
def linksL (ms row : List Int) (ring : Bool) : List Jm := (List.range (ms.length - if ring = true then 0 else 1)).map fun k => linkJ (ms.getD k 0) 0 (ms.getD ((k + 1) % ms.length) 0) (if (ring || decide ((k + 1) % ms.length < ms.length - 1)) = true then 1 else 0) (k : Int) (row.getD (8 + k) 0)
def spLks : Sp := fun vs H Q _ => ∃ (mr rr : Addr) (ms row : List Int) (ring : Bool), vs = [.ref mr, .ref rr, .bl ring] ∧ H mr = some (.lst (ms.map V.int)) ∧ 3 ≤ ms.length ∧ ms.length ≤ 6 ∧ H rr = some (.lst (row.map V.int)) ∧ row.length = 16 ∧ RetLD ((linksL ms row ring).map dJm) H Q
abbrev nsLks : List Str := ["_law_machines_here", "_law_row_here", "_law_is_ring", "_law_many", "_law_found", "_law_k", "_law_later", "_law_turn"]
theorem scLks : FnScope nsLks ["_law_machines_here", "_law_row_here", "_law_is_ring"] (defScope (topS 26)) := ⟨rfl, rfl, rfl, by decide +kernel, rfl, by decide +kernel, by decide +kernel⟩
theorem ok_lks {f : Addr} {fd : FuncData} (F : Fun K "_law_links" "_law_links" (topS 26) f fd) (L : LawT K mg) (GM : CalX P w K mg base CX0 1 "_law_meeting" spMet) : FnOk P w K mg base CX0 2 f fd ["_law_machines_here", "_law_row_here", "_law_is_ring"] spLks := by
  refine F.ok (k := 1) scLks (fun vs H Q E h => ?_) (fun cdv A outer s H vs Q E hr h => ?_)
  · obtain ⟨mr, rr, ms, row, ring, rfl, _⟩ := h
    rfl
  · obtain ⟨mr, rr, ms, row, ring, rfl, hms, n3, n6, hrr, h16, q⟩ := h
    refine ⟨_, pss_cons (ps_set (i := 3) scLks.nd rfl (Or.inl rfl) (pe_callB call_len_seq (by rfl) L.len PySem.boot_len (pa_cons (pv 0) pa_nil)))
      (pss_cons (ps_set (i := 4) scLks.nd rfl (Or.inl rfl) (pe_lst pa_nil))
      (pss_cons (ps_for PassesOwn.never rfl (pi_range1 (by rfl) L.range (pa_cons (pe_op op_sub (pv 3) (pe_callTy call_int1 (by rfl) L.int (by decide +kernel) (pa_cons (pe_not (pv 2)) pa_nil))) pa_nil)) (pg_name (i := 5) scLks.nd rfl (.inl rfl))
        (pss_cons (ps_set (i := 6) scLks.nd rfl (Or.inl rfl) (pe_op op_mod (pe_callTy call_int1 (by rfl) L.int (by decide +kernel) (pa_cons (pe_op op_add (pv 5) pe_int) pa_nil)) (pv 3)))
        (pss_cons (ps_set (i := 7) scLks.nd rfl (Or.inl rfl) (pe_callTy call_int1 (by rfl) L.int (by decide +kernel) (pa_cons (pe_or (pv 2) (pe_one (pe_cmpR op_lt (pv 6) (pe_op op_sub (pv 3) pe_int) (nomark _)))) pa_nil)))
        (pss_one (ps_expr (pe_bm PySem.F.plainAttrs_list PySem.F.slot_list_append PySem.F.type_list_append mt_append (pv 4) (pa_cons (pe_cx (E := fun _ => E0) GM hr (by decide) (by rfl) at0 (pa_cons (pe_tup (pa_cons (pe_ix ix_list (pv 0) (pv 5) (fun _ _ => rfl)) (pa_cons pe_int pa_nil))) (pa_cons (pe_tup (pa_cons (pe_ix ix_list (pv 0) (pv 6) (fun _ _ => rfl)) (pa_cons (pv 7) pa_nil))) (pa_cons (pv 5) (pa_cons (pe_ix ix_list (pv 1) (pe_op op_add pe_int (pv 5)) (fun _ _ => rfl)) pa_nil))))) pa_nil)))))))
      (pss_one (ps_ret (pv 4))))), ?_⟩
    refine q_asg (i := 3) (v := .int (ms.length : Int)) (σ := [some (.ref mr), some (.ref rr), some (.bl ring), none, none, none, none, none]) (ev_is (ev_cb (ea_cons (ev_var (i := 0) rfl) ea_nil) (fun H2 e2 Q' q' => ⟨mr, _, rfl, .inl (sq_of (e2 _ _ hms)), q' H2 (Ex.refl H2)⟩)) (by rw [List.length_map])) (fun H1 e1 => ?_)
    refine q_asgL (i := 4) (σ := [some (.ref mr), some (.ref rr), some (.bl ring), some (.int (ms.length : Int)), none, none, none, none]) (xs := []) (el_lst ea_nil (by show 0 ≤ 100000; decide)) (fun fl H2 hfl e2 h2 => ?_)
    have x2 := e1.trans e2
    have fln : H fl = none := fresh_back e1 hfl
    have hN : (ms.length : Int) - (if (!ring) = true then 1 else 0) = ((ms.length - if ring = true then 0 else 1 : Nat) : Int) := by
      cases ring
      · show (ms.length : Int) - 1 = ((ms.length - 1 : Nat) : Int)
        omega
      · show (ms.length : Int) - 0 = ((ms.length - 0 : Nat) : Int)
        omega
    have hNle : (ms.length - if ring = true then 0 else 1) ≤ ms.length := Nat.sub_le _ _
    generalize hNN : (ms.length - if ring = true then 0 else 1) = N at hN hNle
    refine q_forR1 (j := 5) (n := (N : Int)) (σ := [some (.ref mr), some (.ref rr), some (.bl ring), some (.int (ms.length : Int)), some (.ref fl), none, none, none]) (ea_cons (ev_is (ev_op (x := .int (ms.length : Int)) (y := .int (if (!ring) = true then 1 else 0)) (ev_var (i := 3) rfl) (ev_intB K (ev_notV (ev_var (i := 2) rfl))) rv_I0) (by rw [hN])) ea_nil) (by omega)
      (fun i σ' H' => ∃ (v5 v6 v7 : Option V) (fs : List V), σ' = [some (.ref mr), some (.ref rr), some (.bl ring), some (.int (ms.length : Int)), some (.ref fl), v5, v6, v7] ∧ Ex H H' ∧ H' fl = some (.lst fs) ∧ fs.length = i ∧ DaL H' fs (((List.range i).map fun k => linkJ (ms.getD k 0) 0 (ms.getD ((k + 1) % ms.length) 0) (if (ring || decide ((k + 1) % ms.length < ms.length - 1)) = true then 1 else 0) (k : Int) (row.getD (8 + k) 0)).map dJm))
      (fun H3 e3 => ⟨none, none, none, [], rfl, x2.trans e3, e3 _ _ h2, rfl, DaL.nil⟩) (fun i σ' H' hi ⟨v5, v6, v7, fs, hσ, he, hf, hlen, hd⟩ => ?_) (fun σ' H' ⟨v5, v6, v7, fs, hσ, he, hf, hlen, hd⟩ => ?_)
    · subst hσ
      have hiN : i < N := by omega
      have hl2 : (i + 1) % ms.length < ms.length := Nat.mod_lt _ (by omega)
      refine q_asg (i := 6) (v := .int (((i + 1) % ms.length : Nat) : Int)) (σ := [some (.ref mr), some (.ref rr), some (.bl ring), some (.int (ms.length : Int)), some (.ref fl), some (.int (i : Int)), v6, v7]) (ev_is (ev_op (x := .int ((i : Int) + 1)) (y := .int (ms.length : Int)) (ev_intJ (K := K) (ev_op (x := .int (i : Int)) (y := .int 1) (ev_var (i := 5) rfl) ev_c rv_I0)) (ev_var (i := 3) rfl) (rv_I (show (0 : Int) < (ms.length : Int) by omega))) (by rw [Int.natCast_emod, Int.natCast_add]; rfl)) (fun H3 e3 => ?_)
      generalize hla : (i + 1) % ms.length = la at hl2
      refine q_asg (i := 7) (v := .int (if (ring || decide (la < ms.length - 1)) = true then 1 else 0)) (σ := [some (.ref mr), some (.ref rr), some (.bl ring), some (.int (ms.length : Int)), some (.ref fl), some (.int (i : Int)), some (.int (la : Int)), v7]) (ev_intB K (ev_orV (a := ring) (b := decide (la < ms.length - 1)) (ev_var (i := 2) rfl) (fun _ => ev_is (ev_op (x := .int (la : Int)) (y := .int ((ms.length : Int) - 1)) (ev_var (i := 6) rfl) (ev_op (x := .int (ms.length : Int)) (y := .int 1) (ev_var (i := 3) rfl) ev_c rv_I0) rv_I0) (by
        show V.bl _ = V.bl _
        congr 1
        exact decide_eq_decide.mpr (by omega))))) (fun H4 e4 => ?_)
      have x4 := he.trans (e3.trans e4)
      have im : i < ms.length := by omega
      have eA : ms[i]? = some (ms.getD i 0) := by rw [List.getD_eq_getElem?_getD, List.getElem?_eq_getElem im]; rfl
      have eB : ms[la]? = some (ms.getD la 0) := by rw [List.getD_eq_getElem?_getD, List.getElem?_eq_getElem hl2]; rfl
      have eR : row[8 + i]? = some (row.getD (8 + i) 0) := by rw [List.getD_eq_getElem?_getD, List.getElem?_eq_getElem (by omega)]; rfl
      generalize ht : (if (ring || decide (la < ms.length - 1)) = true then (1 : Int) else 0) = tb
      have eM : EvS (tCallS spMet (fun _ => E0) (tCons (tTup (tCons (tOp (rIxL K) (tVar 0) (tVar 5)) (tCons (tC (.int 0)) tNil))) (tCons (tTup (tCons (tOp (rIxL K) (tVar 0) (tVar 6)) (tCons (tVar 7) tNil))) (tCons (tVar 5) (tCons (tOp (rIxL K) (tVar 1) (tOp (rI0 fun i j => .int (i + j)) (tC (.int 8)) (tVar 5))) tNil))))) [some (.ref mr), some (.ref rr), some (.bl ring), some (.int (ms.length : Int)), some (.ref fl), some (.int (i : Int)), some (.int (la : Int)), some (.int tb)] H4 (fun v H' => DaAt H' v (dJm (linkJ (ms.getD i 0) 0 (ms.getD la 0) tb (i : Int) (row.getD (8 + i) 0)))) :=
        es_met (es_tu (etu_2 (es_intJ (ev_ixJ (K := K) (j := i) (ev_var (i := 0) rfl) (ev_var (i := 5) rfl) (x4 _ _ hms) eA)) (es_intJ ev_c))) (es_tu (etu_2 (es_intJ (ev_ixJ (K := K) (j := la) (ev_var (i := 0) rfl) (ev_var (i := 6) rfl) (x4 _ _ hms) eB)) (es_intJ (ev_var (i := 7) rfl)))) (ev_var (i := 5) rfl)
          (ev_ixJ (K := K) (j := 8 + i) (ev_var (i := 1) rfl) (ev_is (ev_op (x := .int 8) (y := .int (i : Int)) ev_c (ev_var (i := 5) rfl) rv_I0) (by rw [show ((8 + i : Nat) : Int) = 8 + (i : Int) by omega])) (x4 _ _ hrr) eR)
      refine s_appS (Pv := fun v H' => DaAt H' v (dJm (linkJ (ms.getD i 0) 0 (ms.getD la 0) tb (i : Int) (row.getD (8 + i) 0)))) ((e3.trans e4) _ _ hf) (ev_var (i := 4) rfl) eM (by omega) (fun v H5 e5 hv => ?_)
      have tkL : TK H5 (upd H5 fl (.lst (fs ++ [v]))) := tk_lst (e5 _ _ ((e3.trans e4) _ _ hf))
      refine ⟨_, _, _, fs ++ [v], rfl, Ex.mut (x4.trans e5) fln, upd_same, by rw [List.length_append, hlen]; rfl, ?_⟩
      rw [List.range_succ, List.map_append, List.map_append]
      refine DaL.app ((hd.ex ((e3.trans e4).trans e5)).keep tkL) (DaL.cons ?_ DaL.nil)
      show DaAt _ v (dJm (linkJ (ms.getD i 0) 0 (ms.getD ((i + 1) % ms.length) 0) (if (ring || decide ((i + 1) % ms.length < ms.length - 1)) = true then 1 else 0) (i : Int) (row.getD (8 + i) 0)))
      rw [hla, ht]
      exact hv.keep tkL
    · subst hσ
      refine s_ret (v := .ref fl) (ev_var (i := 4) rfl) (fun H3 e3 => ?_)
      refine q fl fs H3 fln (he.trans e3) (e3 _ _ hf) ?_
      unfold linksL
      rw [hNN]
      exact hd.ex e3
end
end Fs

set_option Elab.async false
set_option linter.all false
set_option maxRecDepth 100000
set_option maxHeartbeats 8000000
/-! _law_logs -/
namespace Fs
open PySem L2 Evl FsE FsC FsR FsK FsV FsD FsG
theorem asg_ {te : TE} {i : Nat} {tz : TS} {D : Ends} {σ : L2.St} {H : Hp} (h : te σ H fun v H1 => tz D (σ.set i (some v)) H1) : tSeq (tAsg te (gName i)) tz D σ H := h
/-- logs whose lists are all apart -/
structure LgN (H : Hp) (L : Addr) (as : List Addr) (ls : List (List Jm)) : Prop where
  at_ : H L = some (.lst (as.map V.ref))
  nd : as.Nodup
  ne : L ∉ as
  ls_ : LsA LgAt H (as.map V.ref) ls
theorem LgN.lgs {H : Hp} {L : Addr} {as : List Addr} {ls : List (List Jm)} (h : LgN H L as ls) : LgsAt H L ls := ⟨_, h.at_, h.ls_⟩
theorem LgN.ex {H H' : Hp} (e : Ex H H') {L : Addr} {as : List Addr} {ls : List (List Jm)} (h : LgN H L as ls) : LgN H' L as ls := ⟨e _ _ h.at_, h.nd, h.ne, h.ls_.imp fun _ _ z => z.ex e⟩
theorem LgN.len {H : Hp} {L : Addr} {as : List Addr} {ls : List (List Jm)} (h : LgN H L as ls) : as.length = ls.length := by
  have := h.ls_.length
  rwa [List.length_map] at this
theorem lsa_set {H H' : Hp} : ∀ {as : List Addr} {ls : List (List Jm)} {k : Nat} {a : Addr} {l : List Jm}, LsA LgAt H (as.map V.ref) ls → as.Nodup → as[k]? = some a → (∀ b l', b ≠ a → b ∈ as → LgAt H (.ref b) l' → LgAt H' (.ref b) l') → LgAt H' (.ref a) l → LsA LgAt H' (as.map V.ref) (ls.set k l)
  | [], _, _, _, _, _, _, h, _, _ => by simp at h
  | b :: as, [], _, _, _, h, _, _, _, _ => h.elim
  | b :: as, l0 :: ls, 0, a, l, h, hn, ha, hk, hl => by
    cases ha
    rw [List.nodup_cons] at hn
    refine ⟨hl, ?_⟩
    have : ∀ {cs : List Addr} {ms : List (List Jm)}, (∀ c ∈ cs, c ∈ as) → LsA LgAt H (cs.map V.ref) ms → LsA LgAt H' (cs.map V.ref) ms := fun {cs} => by
      induction cs with
      | nil => intro ms _ h2; cases ms with | nil => trivial | cons _ _ => exact h2.elim
      | cons c cs ih =>
        intro ms hc h2
        cases ms with
        | nil => exact h2.elim
        | cons m ms => exact ⟨hk c m (fun z => hn.1 (z ▸ hc c (List.mem_cons_self ..))) (List.mem_cons_of_mem _ (hc c (List.mem_cons_self ..))) h2.1, ih (fun c hc' => hc c (List.mem_cons_of_mem _ hc')) h2.2⟩
    exact this (fun _ h => h) h.2
  | b :: as, l0 :: ls, k + 1, a, l, h, hn, ha, hk, hl => by
    rw [List.nodup_cons] at hn
    have ham : a ∈ as := List.mem_of_getElem? ha
    exact ⟨hk b l0 (fun z => hn.1 (z ▸ ham)) (List.mem_cons_self ..) h.1, lsa_set (k := k) h.2 hn.2 ha (fun c l' h1 h2 h3 => hk c l' h1 (List.mem_cons_of_mem _ h2) h3) hl⟩
/-- the list at a is another one -/
theorem LgN.put {H : Hp} {L : Addr} {as : List Addr} {ls : List (List Jm)} (h : LgN H L as ls) {k : Nat} {a : Addr} (ha : as[k]? = some a) {xs ys : List V} (hx : H a = some (.lst xs)) {l : List Jm} (hy : DaL (upd H a (.lst ys)) ys (l.map dJm)) : LgN (upd H a (.lst ys)) L as (ls.set k l) := by
  have ham : a ∈ as := List.mem_of_getElem? ha
  have tk : TK H (upd H a (.lst ys)) := tk_lst hx
  refine ⟨by rw [upd_ne (fun z : L = a => h.ne (by rw [z]; exact ham))]; exact h.at_, h.nd, h.ne, lsa_set h.ls_ h.nd ha (fun b l' hb _ hl' => ?_) ⟨a, ys, rfl, upd_same, hy⟩⟩
  obtain ⟨c, zs, e, h1, h2⟩ := hl'
  injection e with e
  subst e
  exact ⟨b, zs, rfl, by rw [upd_ne hb]; exact h1, h2.keep tk⟩
def pushL (ls : List (List Jm)) (o : Int) (m : Jm) : List (List Jm) := ls.set o.toNat (ls.getD o.toNat [] ++ [m])
def partS (t : Int) (m : Jm) (ls : List (List Jm)) (p : Jp) : List (List Jm) := if p.2.1 = t then pushL ls p.1 m else ls
def metS (t : Int) (ls : List (List Jm)) (m : Jm) : List (List Jm) := m.2.foldl (partS t m) ls
def logsF (ms : List Jm) (n : Nat) : List (List Jm) := ms.foldl (metS 1) (ms.foldl (metS 0) (List.replicate n []))
theorem len_partS {t : Int} {m : Jm} {ls : List (List Jm)} {p : Jp} : (partS t m ls p).length = ls.length := by
  unfold partS pushL
  split
  · exact List.length_set ..
  · rfl
theorem len_metS {t : Int} {m : Jm} : ∀ {ps : List Jp} {ls : List (List Jm)}, (ps.foldl (partS t m) ls).length = ls.length := by
  intro ps
  induction ps with
  | nil => intro ls; rfl
  | cons p ps ih =>
    intro ls
    rw [List.foldl_cons, ih, len_partS]
def bndL (b : Nat) (ls : List (List Jm)) : Prop := ∀ l ∈ ls, l.length ≤ b
theorem bndL.mono {b c : Nat} {ls : List (List Jm)} (h : bndL b ls) (hc : b ≤ c) : bndL c ls := fun l hl => Nat.le_trans (h l hl) hc
theorem bnd_part {b : Nat} {t : Int} {m : Jm} {ls : List (List Jm)} {p : Jp} (h : bndL b ls) : bndL (b + 1) (partS t m ls p) := by
  unfold partS pushL
  split
  · intro l hl
    rcases List.mem_or_eq_of_mem_set hl with hl | rfl
    · exact Nat.le_succ_of_le (h l hl)
    · rw [List.length_append]
      show _ + 1 ≤ _
      have : (ls.getD p.1.toNat []).length ≤ b := by
        rw [List.getD_eq_getElem?_getD]
        cases c : ls[p.1.toNat]? with
        | none => exact Nat.zero_le _
        | some l => exact h l (List.mem_of_getElem? c)
      omega
  · exact h.mono (Nat.le_succ _)
theorem bnd_parts {t : Int} {m : Jm} : ∀ {ps : List Jp} {b : Nat} {ls : List (List Jm)}, bndL b ls → bndL (b + ps.length) (ps.foldl (partS t m) ls)
  | [], _, _, h => h
  | p :: ps, b, ls, h => by
    rw [List.foldl_cons, List.length_cons]
    exact (bnd_parts (ps := ps) (bnd_part (p := p) h)).mono (by omega)
theorem bnd_mets {t : Int} : ∀ {ms : List Jm} {b : Nat} {ls : List (List Jm)}, (∀ m ∈ ms, m.2.length ≤ 6) → bndL b ls → bndL (b + 6 * ms.length) (ms.foldl (metS t) ls)
  | [], _, _, _, h => h
  | m :: ms, b, ls, hm, h => by
    rw [List.foldl_cons, List.length_cons]
    have h6 := hm m (List.mem_cons_self ..)
    exact (bnd_mets (ms := ms) (fun x hx => hm x (List.mem_cons_of_mem _ hx)) ((bnd_parts (t := t) (m := m) (ps := m.2) h))).mono (by omega)
theorem bnd_turns {ms : List Jm} (hm : ∀ m ∈ ms, m.2.length ≤ 6) (h6 : ms.length ≤ 6) : ∀ {ts : List Int} {b : Nat} {ls : List (List Jm)}, bndL b ls → bndL (b + 36 * ts.length) (ts.foldl (fun ls t => ms.foldl (metS t) ls) ls)
  | [], _, _, h => h
  | t :: ts, b, ls, h => by
    rw [List.foldl_cons, List.length_cons]
    exact (bnd_turns hm h6 (ts := ts) (bnd_mets (t := t) hm h)).mono (by omega)
section
variable {P : Program} {w : World} {K : PySem.W.Frag} {mg : Str → Option Value} {base : Heap} {CJ C : Addr}
def spLgs : Sp := fun vs H Q _ => ∃ (mt : Addr) (xs : List V) (ms : List Jm) (n : Nat), vs = [.ref mt, .int (n : Int)] ∧ H mt = some (.lst xs) ∧ DaL H xs (ms.map dJm) ∧ (∀ m ∈ ms, JmOk m ∧ ∀ p ∈ m.2, 0 ≤ p.1 ∧ p.1 < (n : Int)) ∧ ms.length ≤ 6 ∧ n ≤ 6 ∧
  ∀ L as H2, H L = none → (∀ a ∈ as, H a = none) → Ex H H2 → LgN H2 L as (logsF ms n) → Q (.ref L) H2
abbrev nsLgs : List Str := ["_law_meetings", "_law_many", "_law_logs_here", "_law_turn", "_law_meeting_here", "_law_part", "_law_k"]
theorem scLgs : FnScope nsLgs ["_law_meetings", "_law_many"] (defScope (topS 27)) := ⟨rfl, rfl, rfl, by decide +kernel, rfl, by decide +kernel, by decide +kernel⟩
theorem ok_lgs {f : Addr} {fd : FuncData} (F : Fun K "_law_logs" "_law_logs" (topS 27) f fd) (L : LawT K mg) : FnOk P w K mg base CX0 1 f fd ["_law_meetings", "_law_many"] spLgs := by
  refine F.ok (k := 0) scLgs (fun vs H Q E h => ?_) (fun cdv A outer s H vs Q E hr h => ?_)
  · obtain ⟨mt, xs, ms, n, rfl, _⟩ := h
    rfl
  · obtain ⟨mt, xs, ms, n, rfl, hmt, hxs, hok, hm6, hn6, q⟩ := h
    refine ⟨_, pss_cons (ps_setLc (i := 2) (own := [("_law_k", 6)]) (g := gName 6) (tt := tYes) (te := tLst tNil) rfl scLgs.nd rfl rfl (sw_true rfl rfl rfl (by decide +kernel)) (pi_range1 (by rfl) L.range (pa_cons (pv 1) pa_nil)) (blkOk_by (own := [("_law_k", 6)]) (N := nsLgs) (sc := defScope (topS 27)) (by decide +kernel))
        (fun _ _ _ _ _ => pg_name (i := 6) scLgs.nd rfl (.inl rfl)) (fun _ _ _ _ _ => pts_nil) (fun _ _ _ _ _ => pe_lst pa_nil))
      (pss_cons (ps_for PassesOwn.never rfl (pi_range1 (by rfl) L.range (pa_cons pe_int pa_nil)) (pg_name (i := 3) scLgs.nd rfl (.inl rfl))
        (pss_one (ps_for PassesOwn.never rfl (pi_list (pv 0)) (pg_name (i := 4) scLgs.nd rfl (.inl rfl))
          (pss_one (ps_for PassesOwn.never rfl (pi_tup (pe_ix ix_tup (pv 4) pe_int (fun _ _ => rfl))) (pg_name (i := 5) scLgs.nd rfl (.inl rfl))
            (pss_one (ps_if (pt_cmpR op_eq (pe_ix ix_tup (pv 5) pe_int (fun _ _ => rfl)) (pv 3) (nomark _)) (pss_one (ps_expr (pe_bm PySem.F.plainAttrs_list PySem.F.slot_list_append PySem.F.type_list_append mt_append (pe_ix ix_list (pv 2) (pe_ix ix_tup (pv 5) pe_int (fun _ _ => rfl)) (fun _ _ => rfl)) (pa_cons (pv 4) pa_nil)))) pss_nil)))))))
      (pss_one (ps_ret (pv 2)))), ?_⟩
    have lx := hxs.length
    rw [List.length_map] at lx
    refine asg_ ?_
    refine lc_rng (j := 6) (vs := [6]) (te := tLst tNil) (σ := [some (.ref mt), some (.int (n : Int)), none, none, none, none, none]) (n := n) (ea_cons (ev_var (i := 1) rfl) ea_nil) (by omega) (fun D i H' => H D = none ∧ Ex H H' ∧ ∃ as : List Addr, H' D = some (.lst (as.map V.ref)) ∧ as.length = i ∧ as.Nodup ∧ D ∉ as ∧ (∀ a ∈ as, H a = none) ∧ LsA LgAt H' (as.map V.ref) (List.replicate i []))
      (fun D H1 e1 hD => ⟨fresh_back e1 hD, e1.trans (Ex.new hD), [], upd_same, rfl, List.nodup_nil, (by simp), (fun a h => by cases h), trivial⟩) (fun _ => rfl) (fun D i H' hi ⟨hDn, he, as, hd, hlen, hnd, hne, hfr, hls⟩ => ?_) (fun Lg H1 ⟨hDn, he, as, hd, hlen, hnd, hne, hfr, hls⟩ => ?_)
    · refine ⟨by show 0 ≤ sizeLine; decide, fun p hp => ?_⟩
      have npD : p ≠ D := fun z => by rw [z, hd] at hp; cases hp
      have npa : p ∉ as := fun z => by
        obtain ⟨j, hj⟩ := List.mem_iff_getElem?.mp z
        obtain ⟨v, hv, a, xs', e, h1, _⟩ := hls.get (i := j) (v := .ref p) (by rw [List.getElem?_map, hj]; rfl)
        injection e with e
        subst e
        rw [hp] at h1
        cases h1
      have pn : H p = none := fresh_back he hp
      refine ⟨as.map V.ref, by rw [upd_ne (fun z => npD z.symm)]; exact hd, by rw [List.length_map, sizeLine_eq]; omega, hDn, Ex.mut (he.trans (Ex.new hp)) hDn, as ++ [p], by rw [upd_same, List.map_append]; rfl, by rw [List.length_append, hlen]; rfl, ?_, ?_, ?_, ?_⟩
      · exact List.nodup_append.mpr ⟨hnd, by simp, fun a ha b hb => by rw [List.mem_singleton.mp hb]; exact fun z => npa (z ▸ ha)⟩
      · exact fun z => (List.mem_append.mp z).elim hne fun z => npD (List.mem_singleton.mp z).symm
      · exact fun a ha => (List.mem_append.mp ha).elim (hfr a) fun z => by rw [List.mem_singleton.mp z]; exact pn
      · rw [List.map_append, List.replicate_succ']
        have stay : ∀ {b : Addr} {l' : List Jm}, b ≠ D → LgAt H' (.ref b) l' → LgAt (upd (upd H' p (.lst [])) D (.lst (as.map V.ref ++ [.ref p]))) (.ref b) l' := fun {b l'} hb ⟨c, zs, e, h1, h2⟩ => by
          injection e with e
          subst e
          have tk : TK H' (upd (upd H' p (.lst [])) D (.lst (as.map V.ref ++ [.ref p]))) := (TK.of (Ex.new hp)).trans (tk_lst ((Ex.new hp) _ _ hd))
          exact ⟨b, zs, rfl, by rw [upd_ne hb]; exact (Ex.new hp) _ _ h1, h2.keep tk⟩
        refine LsA.snoc ?_ ⟨p, [], rfl, by rw [upd_ne npD, upd_same], DaL.nil⟩
        have all : ∀ {cs : List Addr} {ms : List (List Jm)}, (∀ c ∈ cs, c ∈ as) → LsA LgAt H' (cs.map V.ref) ms → LsA LgAt (upd (upd H' p (.lst [])) D (.lst (as.map V.ref ++ [.ref p]))) (cs.map V.ref) ms := fun {cs} => by
          induction cs with
          | nil => intro ms _ h2; cases ms with | nil => trivial | cons _ _ => exact h2.elim
          | cons c cs ih =>
            intro ms hc h2
            cases ms with
            | nil => exact h2.elim
            | cons m ms => exact ⟨stay (fun z => hne (z ▸ hc c (List.mem_cons_self ..))) h2.1, ih (fun c hc' => hc c (List.mem_cons_of_mem _ hc')) h2.2⟩
        exact all (fun _ h => h) hls
    · have hmt1 := he _ _ hmt
      have hxs1 := hxs.ex he
      have N0 : LgN H1 Lg as (List.replicate n []) := ⟨hd, hnd, hne, hls⟩
      have frs : ∀ a ∈ Lg :: as, H a = none := fun a ha => (List.mem_cons.mp ha).elim (fun z => by rw [z]; exact hDn) (hfr a)
      refine q_forR1 (j := 3) (n := 2) (σ := [some (.ref mt), some (.int (n : Int)), some (.ref Lg), none, none, none, none]) (ea_cons ev_c ea_nil) (by decide)
        (fun i σ' H' => ∃ (v3 v4 v5 : Option V), σ' = [some (.ref mt), some (.int (n : Int)), some (.ref Lg), v3, v4, v5, none] ∧ Ex H H' ∧ LgN H' Lg as (((List.range i).map fun t : Nat => (t : Int)).foldl (fun ls t => ms.foldl (metS t) ls) (List.replicate n [])))
        (fun H2 e2 => ⟨none, none, none, rfl, he.trans e2, N0.ex e2⟩) (fun i σ' H' hi ⟨v3, v4, v5, hσ, he2, hN⟩ => ?_) (fun σ' H' ⟨v3, v4, v5, hσ, he2, hN⟩ => ?_)
      · subst hσ
        rw [List.range_succ, List.map_append, List.foldl_append]
        generalize hA : ((List.range i).map fun t : Nat => (t : Int)).foldl (fun ls t => ms.foldl (metS t) ls) (List.replicate n []) = lsA at hN
        have lA : lsA.length = n := by rw [← hN.len, hlen]
        refine s_forL (K := K) (a := mt) (xs := xs) (σ := [some (.ref mt), some (.int (n : Int)), some (.ref Lg), some (.int (i : Int)), v4, v5, none]) (ev_var (i := 0) rfl) (sq_of (he2 _ _ hmt)) (fun j σ' H' => ∃ (v4 v5 : Option V), σ' = [some (.ref mt), some (.int (n : Int)), some (.ref Lg), some (.int (i : Int)), v4, v5, none] ∧ Ex H H' ∧ LgN H' Lg as ((ms.take j).foldl (metS (i : Int)) lsA))
          (fun H3 e3 => ⟨v4, v5, rfl, he2.trans e3, hN.ex e3⟩) (fun j σ' H' _ ⟨_, _, _, e, _⟩ => sq_of (e _ _ hmt)) (fun j x σ' H' hx ⟨v4, v5, hσ, he3, hN3⟩ => ?_) (fun σ' H' ⟨v4, v5, hσ, he3, hN3⟩ => ?_)
        · subst hσ
          obtain ⟨m, hmj, hd3⟩ := jms_get hxs hx
          have hmm := List.mem_of_getElem? hmj
          obtain ⟨hmo, hrng⟩ := hok m hmm
          obtain ⟨ma, mp, c, ps, rfl, hma, hmp, _, hps⟩ := jm_at hd3
          generalize hB : (ms.take j).foldl (metS (i : Int)) lsA = lsB at hN3
          have lB : lsB.length = n := by rw [← hN3.len, hlen]
          have lps := hps.length
          rw [List.length_map] at lps
          refine s_forT (K := K) (a := mp) (xs := ps) (σ := [some (.ref mt), some (.int (n : Int)), some (.ref Lg), some (.int (i : Int)), some (.ref ma), v5, none]) (ev_op (x := .ref ma) (y := .int 1) (ev_var (i := 4) rfl) ev_c (rv_ixT (K := K) (st_of (he3 _ _ hma)) rfl)) (st_of (he3 _ _ hmp)) (fun k σ' H' => ∃ v5 : Option V, σ' = [some (.ref mt), some (.int (n : Int)), some (.ref Lg), some (.int (i : Int)), some (.ref ma), v5, none] ∧ Ex H H' ∧ LgN H' Lg as ((m.2.take k).foldl (partS (i : Int) m) lsB))
            (fun H4 e4 => ⟨v5, rfl, he3.trans e4, hN3.ex e4⟩) (fun k σ' H' _ ⟨_, _, e, _⟩ => st_of (e _ _ hmp)) (fun k y σ' H' hy ⟨v5, hσ, he4, hN4⟩ => ?_) (fun σ' H' ⟨v5, hσ, he4, hN4⟩ => ?_)
          · subst hσ
            obtain ⟨p, qa, u, hp, rfl, hq, hu⟩ := jps_get hps hy
            have hpm := List.mem_of_getElem? hp
            obtain ⟨r0, r1⟩ := hrng p hpm
            rw [List.take_add_one, hp, List.foldl_append]
            show tIfS _ _ _ _ _ _
            generalize hC : (m.2.take k).foldl (partS (i : Int) m) lsB = lsC at hN4
            have lC : lsC.length = n := by rw [← hN4.len, hlen]
            have hq4 := he4 _ _ hq
            refine s_when (b := decide (V.int p.2.1 = V.int (i : Int))) (σ := [some (.ref mt), some (.int (n : Int)), some (.ref Lg), some (.int (i : Int)), some (.ref ma), some (.ref qa), none]) (et_test (ev_op (x := .int p.2.1) (y := .int (i : Int)) (ev_op (x := .ref qa) (y := .int 1) (ev_var (i := 5) rfl) ev_c (rv_ixT (K := K) (st_of hq4) rfl)) (ev_var (i := 3) rfl) (rv_eq rfl))) (fun hb H5 e5 => ?_) (fun hb H5 e5 => ?_)
            · have ct : p.2.1 = (i : Int) := by
                have := of_decide_eq_true hb
                injection this
              obtain ⟨o, ho⟩ : ∃ o : Nat, p.1 = (o : Int) := ⟨p.1.toNat, by omega⟩
              have on : o < n := by omega
              have N5 := hN4.ex e5
              have hlo : lsC[o]? = some lsC[o] := List.getElem?_eq_getElem (by omega)
              obtain ⟨a2, xs2, ha2, hx2, hd2⟩ := lgs_get N5.ls_ hlo
              rw [List.getElem?_map] at ha2
              obtain ⟨a3, ha3, e3'⟩ := Option.map_eq_some_iff.mp ha2
              injection e3' with e3'
              subst e3'
              have hmH : DaAt H5 (.ref ma) (dJm m) := hd3.ex (he4.trans e5)
              have z100 : xs2.length < 100000 := by
                have few : ∀ m ∈ ms, m.2.length ≤ 6 := fun m hm => (hok m hm).1.few
                have b0 : bndL 0 (List.replicate n ([] : List Jm)) := fun l hl => by rw [(List.mem_replicate.mp hl).2]; exact Nat.le_refl _
                have bA := bnd_turns few hm6 (ts := (List.range i).map fun t : Nat => (t : Int)) b0
                rw [hA, List.length_map, List.length_range] at bA
                have bB := bnd_mets (t := (i : Int)) (ms := ms.take j) (fun m hm => few m (List.mem_of_mem_take hm)) bA
                rw [hB] at bB
                have bC := bnd_parts (t := (i : Int)) (m := m) (ps := m.2.take k) bB
                rw [hC] at bC
                have q1 := bC lsC[o] (List.getElem_mem _)
                have q2 := hd2.length
                rw [List.length_map] at q2
                have q3 : (m.2.take k).length ≤ m.2.length := by rw [List.length_take]; omega
                have q4 : (ms.take j).length ≤ ms.length := by rw [List.length_take]; omega
                have q5 := hmo.few
                omega
              refine s_appS (l := a3) (xs := xs2) (Pv := fun v _ => v = .ref ma) hx2 (ev_op (x := .ref Lg) (y := .int p.1) (ev_var (i := 2) rfl) (ev_op (x := .ref qa) (y := .int 0) (ev_var (i := 5) rfl) ev_c (rv_ixT (K := K) (st_of (e5 _ _ hq4)) rfl)) (rv_ixL (K := K) (sq_of N5.at_) (by rw [ho]; exact atI_nat (by rw [List.getElem?_map, ha3]; rfl)))) (fun H6 e6 Q6 q6 => ev_var (i := 4) rfl H6 e6 _ fun H7 e7 => q6 _ H7 e7 rfl) z100 (fun v H6 e6 hv => ?_)
              subst hv
              have N6 := N5.ex e6
              have hx6 := e6 _ _ hx2
              have tk6 : TK H6 (upd H6 a3 (.lst (xs2 ++ [.ref ma]))) := tk_lst hx6
              have hy6 : DaL (upd H6 a3 (.lst (xs2 ++ [.ref ma]))) (xs2 ++ [.ref ma]) ((lsC[o] ++ [m]).map dJm) := by
                rw [List.map_append]
                exact DaL.snoc ((hd2.ex e6).keep tk6) ((hmH.ex e6).keep tk6)
              have R := N6.put ha3 hx6 hy6
              refine ⟨_, rfl, Ex.mut ((he4.trans e5).trans e6) (hfr a3 (List.mem_of_getElem? ha3)), ?_⟩
              have ep : [p].foldl (partS (i : Int) m) lsC = lsC.set o (lsC[o] ++ [m]) := by
                show partS (i : Int) m lsC p = _
                unfold partS pushL
                rw [if_pos ct, ho, show ((o : Int)).toNat = o from rfl, List.getD_eq_getElem?_getD, hlo]
                rfl
              show LgN _ Lg as ([p].foldl (partS (i : Int) m) lsC)
              rw [ep]
              exact R
            · have ct : ¬ p.2.1 = (i : Int) := fun z => by
                rw [z] at hb
                simp at hb
              refine ⟨_, rfl, he4.trans e5, ?_⟩
              have ep : [p].foldl (partS (i : Int) m) lsC = lsC := by
                show partS (i : Int) m lsC p = _
                unfold partS
                rw [if_neg ct]
              show LgN _ Lg as ([p].foldl (partS (i : Int) m) lsC)
              rw [ep]
              exact hN4.ex e5
          · subst hσ
            refine ⟨_, _, rfl, he4, ?_⟩
            rw [List.take_add_one, hmj, List.foldl_append, hB]
            rw [lps, List.take_length] at hN4
            exact hN4
        · subst hσ
          refine ⟨_, _, _, rfl, he3, ?_⟩
          rw [lx, List.take_length] at hN3
          exact hN3
      · subst hσ
        refine s_ret (v := .ref Lg) (ev_var (i := 2) rfl) (fun H3 e3 => ?_)
        exact q Lg as H3 hDn hfr (he2.trans e3) (hN.ex e3)
end
end Fs

set_option Elab.async false
set_option linter.all false
set_option maxRecDepth 100000
set_option maxHeartbeats 8000000
/-! _law_join -/
namespace Fs
open PySem L2 Evl FsE FsC FsR FsK FsV FsD FsG
theorem takesJ {X : Cx} : Takes X (fun _ _ _ _ => False) := fun _ _ x => by
  obtain ⟨_, _, _, _, _, _, _, _, _, _, _, _, _, _, _, _, z⟩ := x
  exact z.elim
theorem q_tryJ {σ : L2.St} {H : Hp} {te : TE} {v : V} {sp : Sp} {E : Ends → L2.St → XK} {j : Nat} {tz : TS} {D : Ends} (h : Ev te σ H v) (k : ∀ H1, Ex H H1 → sp [v] H1 (fun x H2 => tz D (σ.set j (some x)) H2) (E { D with nx := fun σ2 H2 => tz D σ2 H2 } σ)) : tSeq (fun D τ G => tAsg (tCallS sp (E D) (tCons te tNil)) (gName j) D τ G) tz D σ H := h H (Ex.refl H) _ fun H1 e1 => k H1 e1
theorem el_lcRyJ {σ : L2.St} {H : Hp} {te : TE} {tn : TA} {j : Nat} {vs : List Nat} {n : Nat} {ys : List V} (h : EvA tn σ H [.int (n : Int)]) (hn : n ≤ 40000) (hw : ∀ x, wipe ((wipe σ vs).set j (some x)) vs = wipe σ vs) (hl : ys.length = n)
    (he : ∀ (i : Nat) (y : V) H1, Ex H H1 → ys[i]? = some y → Ev te ((wipe σ vs).set j (some (.int (i : Int)))) H1 y) : EvL (tLc (iRng1 tn) (gName j) tYes te vs) σ H ys := by
  have g := el_lcRm (te := te) (j := j) (vs := vs) (n := (n : Int)) (fun i => ys.getD i .non) h (by omega) hw (fun i H1 e hi => by
    have hy : ys[i]? = some (ys.getD i .non) := by rw [List.getD_eq_getElem?_getD, List.getElem?_eq_getElem (by omega)]; rfl
    exact he i _ H1 e hy)
  rw [Int.toNat_natCast, ← hl] at g
  have e := range_ys (xs := ys) (ys := ys) rfl
  rw [e] at g
  exact g
section
variable {P : Program} {w : World} {K : PySem.W.Frag} {mg : Str → Option Value} {base : Heap} {CJ C : Addr}
def spLjn : Sp := fun vs H Q _ => ∃ (L : Addr) (ls : List (List Jm)), vs = [.ref L] ∧ LgsAt H L ls ∧ LsOk ls ∧ (¬ (EntOk ls ∧ TurnOk ls ∧ TakOk ls) → RetV .non H Q) ∧
  (EntOk ls → TurnOk ls → TakOk ls → ∃ ms ts', JTr ls (List.replicate ls.length 0) ms ts' ∧ ms.length ≤ 100 ∧ (lacksB ls ts' = true → RetV .non H Q) ∧ (lacksB ls ts' = false → RetLD (ms.map dJm) H Q))
abbrev nsLjn : List Str := ["_law_logs_here", "_law_run", "_law_k"]
theorem scLjn : FnScope nsLjn ["_law_logs_here"] (defScope (topS 28)) := ⟨rfl, rfl, rfl, by decide +kernel, rfl, by decide +kernel, by decide +kernel⟩
theorem ok_ljn {f g fl : Addr} {fd fdg fdl : FuncData} (F : Fun K "_law_join" "_law_join" (topS 28) f fd) (L0 : LawT K mg) (J : JnT K mg CJ) (hexm : PySem.W.exmOne K (.ref CJ) (.ref CJ) = some true) (GJ : CalX P w K mg base (L2.CX P w) 5 "joined" (spJoin CJ C)) (IX : IxM K C g) (FG : FnOk P w K mg base CX0 3 g fdg ["self", "at"] (spRunGet C)) (BG : Binds K fdg ["self", "at"] []) (LM : LenM K C fl) (FL : FnOk P w K mg base CX0 1 fl fdl ["self"] (spRunLen C)) (BL : Binds K fdl ["self"] []) :
    FnOk P w K mg base CX0 6 f fd ["_law_logs_here"] spLjn := by
  refine F.ok (k := 5) scLjn (fun vs H Q E h => ?_) (fun cdv A outer s H vs Q E hr h => ?_)
  · obtain ⟨L, ls, rfl, _⟩ := h
    rfl
  · obtain ⟨L, ls, rfl, hL, hok, hbad, hgood⟩ := h
    refine ⟨_, pss_cons (ps_try_only (c := .ref CJ) (tb := fun W => tAsg (tCallS (spJoin CJ C) (WE W) (tCons (tVar 0) tNil)) (gName 1)) (ts := fun _ _ _ => tRet (tC .non)) (Wout := fun _ _ _ _ => False) rfl rfl ⟨rfl, by decide, .inl J.g⟩ takesJ
        (fun W pn xe tk _ => pss_one (by exact (ps_set (i := 1) scLjn.nd rfl (Or.inr rfl) (pe_cx (E := WE W) GJ hr (by decide) (by rfl) (fun σ => passAt tk σ) (pa_cons (pv 0) pa_nil))))) (fun a oe cls d pn _ _ => pss_one (ps_ret pe_non)))
      (pss_one (ps_ret (pe_lc (own := [("_law_k", 2)]) (g := gName 2) (tt := tYes) (te := tIxO C (spRunGet C) (fun _ => E0) (tVar 1) (tVar 2)) rfl scLjn.nd (pi_range1 (by rfl) L0.range (pa_cons (pe_callB (call_lenO (E := E0) LM FL (hr.mono (by decide)) BL (fun σ => at0 (E := fun _ => E0) σ)) (by rfl) L0.len PySem.boot_len (pa_cons (pv 1) pa_nil)) pa_nil)) (blkOk_by (own := [("_law_k", 2)]) (N := nsLjn) (sc := defScope (topS 28)) (by decide +kernel))
        (fun _ _ _ _ _ => pg_name (i := 2) scLjn.nd rfl (Or.inl rfl)) (fun _ _ _ _ _ => pts_nil)
        (fun _ _ _ _ _ => pe_ixO (E := fun _ => E0) (pv 1) (pv 2) IX FG (hr.mono (by decide)) BG at0)))), ?_⟩
    have non : ∀ {H1 H2 : Hp} {D : Ends}, Ex H H1 → RetV .non H D.rt → Ex H1 H2 → wOnly K (.ref CJ) (fun _ _ _ => tRet (tC .non)) (fun _ _ _ _ => False) D (.ref CJ) none [some (.ref L), none, none] H2 := fun e1 q e2 => ⟨true, hexm, fun _ a _ => q _ (e1.trans e2), fun z => nomatch z⟩
    refine q_tryJ (E := fun D => WE (wOnly K (.ref CJ) (fun _ _ _ => tRet (tC .non)) (fun _ _ _ _ => False) D)) (ev_var (i := 0) (σ := [some (.ref L), none, none]) rfl) fun H1 e1 => ⟨L, ls, rfl, hL.ex e1, hok, fun hn H2 e2 => non e1 (hbad hn) e2, fun hE hT hK => ?_⟩
    obtain ⟨ms, ts', htr, hms, hl, hg⟩ := hgood hE hT hK
    refine ⟨ms, ts', htr, hms, fun hb H2 e2 => non e1 (hl hb) e2, fun hb r mvs H2 hr2 e2 hrn hd => ?_⟩
    have lm := hd.length
    rw [List.length_map] at lm
    refine s_retL (el_lcRyJ (n := mvs.length) (ys := mvs) (vs := [2]) (σ := [some (.ref L), some (.ref r), none]) (ea_cons (fun H3 e3 Q3 q3 => ?_) ea_nil) (by omega) (fun _ => rfl) rfl (fun i y H3 e3 hy => ev_ixO (ev_var (i := 1) rfl) (ev_var (i := 2) rfl) (hrn.ex e3) hy)) (fun p H3 hp e3 h3 => hg hb p mvs H3 (fresh_back (e1.trans e2) hp) ((e1.trans e2).trans e3) h3 (hd.ex e3))
    refine ⟨_, rfl, ?_⟩
    have r1 := hrn.ex e3
    have r1' := r1
    obtain ⟨dx, t, k1, k2⟩ := r1'
    exact ⟨r, dx, _, rfl, k1, r, mvs, rfl, r1, fun H4 e4 => ⟨mvs.length, rfl, by omega, q3 H4 e4⟩⟩
end
end Fs

set_option Elab.async false
set_option linter.all false
set_option maxRecDepth 100000
set_option maxHeartbeats 8000000
/-! links by their places: the checks and the way of joined, counted on places -/
namespace Fs
open PySem L2 Evl FsE FsC FsR FsK FsV FsD FsG
/-- a meeting of two machines: a in its turn 0, b in its turn t -/
def IsLk (m : Jm) (a b t : Nat) : Prop := JmOk m ∧ a ≠ b ∧ ∃ (s1 s2 : Int) (v1 v2 : PyData), m.2 = [((a : Int), 0, s1, v1), ((b : Int), (t : Int), s2, v2)] ∨ m.2 = [((b : Int), (t : Int), s2, v2), ((a : Int), 0, s1, v1)]
theorem IsLk.parts {m : Jm} {a b t : Nat} (h : IsLk m a b t) {p : Jp} (hp : p ∈ m.2) : (p.1 = (a : Int) ∧ p.2.1 = 0) ∨ (p.1 = (b : Int) ∧ p.2.1 = (t : Int)) := by
  obtain ⟨_, _, s1, s2, v1, v2, h⟩ := h
  rcases h with h | h
  · rw [h] at hp
    simp only [List.mem_cons, List.not_mem_nil, or_false] at hp
    rcases hp with rfl | rfl
    · exact .inl ⟨rfl, rfl⟩
    · exact .inr ⟨rfl, rfl⟩
  · rw [h] at hp
    simp only [List.mem_cons, List.not_mem_nil, or_false] at hp
    rcases hp with rfl | rfl
    · exact .inr ⟨rfl, rfl⟩
    · exact .inl ⟨rfl, rfl⟩
theorem IsLk.hasA {m : Jm} {a b t : Nat} (h : IsLk m a b t) : ∃ p ∈ m.2, p.1 = (a : Int) ∧ p.2.1 = 0 := by
  obtain ⟨_, _, s1, s2, v1, v2, h⟩ := h
  rcases h with h | h <;> exact ⟨((a : Int), 0, s1, v1), by rw [h]; simp, rfl, rfl⟩
theorem IsLk.hasB {m : Jm} {a b t : Nat} (h : IsLk m a b t) : ∃ p ∈ m.2, p.1 = (b : Int) ∧ p.2.1 = (t : Int) := by
  obtain ⟨_, _, s1, s2, v1, v2, h⟩ := h
  rcases h with h | h <;> exact ⟨((b : Int), (t : Int), s2, v2), by rw [h]; simp, rfl, rfl⟩
theorem cnt_two {a b : Int} (h : a ≠ b) : cnt [a, b] = 2 := by
  unfold cnt
  unfold dd
  rw [if_neg (by simpa using h)]
  unfold dd
  simp [dd]
theorem IsLk.entA {m : Jm} {a b t : Nat} (h : IsLk m a b t) : entryB a 0 m = true := by
  obtain ⟨_, hne, s1, s2, v1, v2, h⟩ := h
  have ne : ¬ ((b : Int) = (a : Int)) := by omega
  have ne' : (a : Int) ≠ (b : Int) := by omega
  unfold entryB
  rcases h with h | h
  · rw [h]
    simp [List.filterMap_cons, ne, cnt_two ne']
  · rw [h]
    simp [List.filterMap_cons, ne, cnt_two (fun z => ne' z.symm)]
theorem IsLk.entB {m : Jm} {a b t : Nat} (h : IsLk m a b t) : entryB b t m = true := by
  obtain ⟨_, hne, s1, s2, v1, v2, h⟩ := h
  have ne : ¬ ((a : Int) = (b : Int)) := by omega
  have ne' : (a : Int) ≠ (b : Int) := by omega
  unfold entryB
  rcases h with h | h
  · rw [h]
    simp [List.filterMap_cons, ne, cnt_two ne']
  · rw [h]
    simp [List.filterMap_cons, ne, cnt_two (fun z => ne' z.symm)]
theorem IsLk.rdy {m : Jm} {a b t : Nat} (h : IsLk m a b t) (ts : List Nat) : readyB ts m = (decide (ts.getD a 0 = 0) && decide (ts.getD b 0 = t)) := by
  obtain ⟨_, hne, s1, s2, v1, v2, h⟩ := h
  have e1 : decide (((ts.getD ((a : Int)).toNat 0 : Nat) : Int) = 0) = decide (ts.getD a 0 = 0) := decide_eq_decide.mpr (by rw [Int.toNat_natCast]; omega)
  have e2 : decide (((ts.getD ((b : Int)).toNat 0 : Nat) : Int) = (t : Int)) = decide (ts.getD b 0 = t) := decide_eq_decide.mpr (by rw [Int.toNat_natCast]; omega)
  unfold readyB
  rcases h with h | h
  · rw [h]
    show (decide _ && (decide _ && true)) = _
    rw [Bool.and_true]
    exact congr (congrArg _ e1) e2
  · rw [h]
    show (decide _ && (decide _ && true)) = _
    rw [Bool.and_true, Bool.and_comm]
    exact congr (congrArg _ e1) e2
theorem set_getD {α : Type} {xs : List α} {i j : Nat} {v d : α} (h : i < xs.length) : (xs.set i v).getD j d = if j = i then v else xs.getD j d := by
  rw [List.getD_eq_getElem?_getD, List.getD_eq_getElem?_getD, List.getElem?_set]
  by_cases c : i = j
  · subst c
    rw [if_pos rfl, if_pos h, if_pos rfl]
    rfl
  · rw [if_neg c, if_neg (fun z => c z.symm)]
theorem IsLk.bump {m : Jm} {a b t : Nat} (h : IsLk m a b t) {ts : List Nat} (ha : a < ts.length) (hb : b < ts.length) (o : Nat) : (Fs.bump ts m).getD o 0 = ts.getD o 0 + if o = a ∨ o = b then 1 else 0 := by
  obtain ⟨_, hne, s1, s2, v1, v2, h⟩ := h
  have two : ∀ {x y : Nat}, x < ts.length → y < ts.length → x ≠ y → (bumpI (bumpI ts (x : Int)) (y : Int)).getD o 0 = ts.getD o 0 + if o = x ∨ o = y then 1 else 0 := fun {x y} hx hy hxy => by
    unfold bumpI
    rw [Int.toNat_natCast, Int.toNat_natCast, set_getD (by rw [List.length_set]; exact hy), set_getD hx, set_getD hx]
    by_cases c1 : o = y
    · subst c1
      rw [if_pos rfl, if_neg (fun z => hxy z.symm), if_pos (.inr rfl)]
    · rw [if_neg c1]
      by_cases c2 : o = x
      · subst c2
        rw [if_pos rfl, if_pos (.inl rfl)]
      · rw [if_neg c2, if_neg (fun z => z.elim c2 c1)]
        rfl
  unfold Fs.bump
  rcases h with h | h
  · rw [h]
    exact two ha hb hne
  · rw [h]
    show (bumpI (bumpI ts (b : Int)) (a : Int)).getD o 0 = _
    rw [two hb ha (fun z => hne z.symm)]
    by_cases c : o = a <;> by_cases d : o = b <;> simp [c, d]
/-! counted on places -/
def rdI (fa fb tb : Nat → Nat) (c : Nat → Nat) (k : Nat) : Bool := decide (c (fa k) = 0) && decide (c (fb k) = tb k)
def bumpC (fa fb : Nat → Nat) (c : Nat → Nat) (k : Nat) : Nat → Nat := fun i => c i + if i = fa k ∨ i = fb k then 1 else 0
def simB (n : Nat) (fa fb tb : Nat → Nat) (idx : Nat → List Nat) : (Nat → Nat) → List Nat → Bool
  | c, [] => (List.range n).all fun i => ((idx i)[c i]?).all fun k => !rdI fa fb tb c k
  | c, k :: ks => ((List.range n).any fun i => decide ((idx i)[c i]? = some k)) && rdI fa fb tb c k && ((List.range n).all fun i => ((idx i)[c i]?).all fun k2 => !rdI fa fb tb c k2 || decide (k2 = k)) && simB n fa fb tb idx (bumpC fa fb c k) ks
def endC (fa fb : Nat → Nat) : (Nat → Nat) → List Nat → Nat → Nat
  | c, [] => c
  | c, k :: ks => endC fa fb (bumpC fa fb c k) ks
def lackI (n : Nat) (idx : Nat → List Nat) (c : Nat → Nat) : Bool := (List.range n).any fun i => decide (c i < (idx i).length)
def entI (n : Nat) (fa fb tb : Nat → Nat) (idx : Nat → List Nat) : Bool := (List.range n).all fun i => (List.range (idx i).length).all fun j => ((idx i)[j]?).all fun k => (decide (i = fa k) && decide (j = 0)) || (decide (i = fb k) && decide (j = tb k))
def turI (n : Nat) (fa fb tb : Nat → Nat) (idx : Nat → List Nat) : Bool := (List.range n).all fun i => (idx i).all fun k => (decide ((idx (fa k))[0]? = some k) || decide ((idx (fa k)).length = 0)) && (decide ((idx (fb k))[tb k]? = some k) || decide ((idx (fb k)).length = tb k))
def takI (n : Nat) (fa fb tb : Nat → Nat) (idx : Nat → List Nat) : Bool := (List.range n).all fun i => (idx i).all fun k => (List.range n).all fun i' => (idx i').all fun k' =>
  decide (k = k') || !(decide (fa k = fa k') || (decide (fa k = fb k') && decide (tb k' = 0)) || (decide (fb k = fa k') && decide (tb k = 0)) || (decide (fb k = fb k') && decide (tb k = tb k')))
structure Sch (n : Nat) (M : Nat → Nat) (Lk : Nat → Jm) (nl : Nat) (fa fb tb : Nat → Nat) (idx : Nat → List Nat) (ls : List (List Jm)) : Prop where
  lt : ∀ i, i < n → M i < n
  inj : ∀ i j, i < n → j < n → M i = M j → i = j
  surj : ∀ o, o < n → ∃ i, i < n ∧ M i = o
  lk : ∀ k, k < nl → IsLk (Lk k) (M (fa k)) (M (fb k)) (tb k)
  fab : ∀ k, k < nl → fa k < n ∧ fb k < n
  len : ls.length = n
  at_ : ∀ i, i < n → ls[M i]? = some ((idx i).map Lk)
  il : ∀ i, i < n → ∀ k ∈ idx i, k < nl
section
variable {n : Nat} {M : Nat → Nat} {Lk : Nat → Jm} {nl : Nat} {fa fb tb : Nat → Nat} {idx : Nat → List Nat} {ls : List (List Jm)}
theorem Sch.got (S : Sch n M Lk nl fa fb tb idx ls) {o : Nat} {l : List Jm} (h : ls[o]? = some l) : ∃ i, i < n ∧ M i = o ∧ l = (idx i).map Lk := by
  have ho : o < n := by have := (List.getElem?_eq_some_iff.mp h).1; rw [S.len] at this; exact this
  obtain ⟨i, hi, rfl⟩ := S.surj o ho
  rw [S.at_ i hi] at h
  cases h
  exact ⟨i, hi, rfl, rfl⟩
theorem Sch.mem (S : Sch n M Lk nl fa fb tb idx ls) {l : List Jm} {m : Jm} (hl : l ∈ ls) (hm : m ∈ l) : ∃ i k, i < n ∧ k ∈ idx i ∧ k < nl ∧ m = Lk k := by
  obtain ⟨o, ho⟩ := List.mem_iff_getElem?.mp hl
  obtain ⟨i, hi, _, rfl⟩ := S.got ho
  obtain ⟨k, hk, rfl⟩ := List.mem_map.mp hm
  exact ⟨i, k, hi, hk, S.il i hi k hk, rfl⟩
theorem Sch.ok (S : Sch n M Lk nl fa fb tb idx ls) (hn : n ≤ 10) (h20 : ∀ i, i < n → (idx i).length ≤ 20) : LsOk ls := by
  refine ⟨by rw [S.len]; exact hn, fun l hl => ?_, fun l hl m hm => ?_⟩
  · obtain ⟨o, ho⟩ := List.mem_iff_getElem?.mp hl
    obtain ⟨i, hi, _, rfl⟩ := S.got ho
    rw [List.length_map]
    exact h20 i hi
  · obtain ⟨i, k, _, _, hk, rfl⟩ := S.mem hl hm
    exact (S.lk k hk).1
theorem Sch.ent (S : Sch n M Lk nl fa fb tb idx ls) (h : entI n fa fb tb idx = true) : EntOk ls := fun o j l m hl hm => by
  obtain ⟨i, hi, rfl, rfl⟩ := S.got hl
  rw [List.getElem?_map] at hm
  obtain ⟨k, hk, rfl⟩ := Option.map_eq_some_iff.mp hm
  have hj : j < (idx i).length := (List.getElem?_eq_some_iff.mp hk).1
  have z := List.all_eq_true.mp (List.all_eq_true.mp h i (List.mem_range.mpr hi)) j (List.mem_range.mpr hj)
  rw [hk] at z
  have z : ((decide (i = fa k) && decide (j = 0)) || (decide (i = fb k) && decide (j = tb k))) = true := z
  have lk := S.lk k (S.il i hi k (List.mem_of_getElem? hk))
  rcases Bool.or_eq_true_iff.mp z with z | z
  · obtain ⟨z1, z2⟩ := Bool.and_eq_true_iff.mp z
    have z1 := of_decide_eq_true z1
    have z2 := of_decide_eq_true z2
    rw [z1, z2]
    exact lk.entA
  · obtain ⟨z1, z2⟩ := Bool.and_eq_true_iff.mp z
    have z1 := of_decide_eq_true z1
    have z2 := of_decide_eq_true z2
    rw [z1, z2]
    exact lk.entB
theorem fits_at {l : List Jm} {t : Nat} {m : Jm} (hm : JmOk m) (h : l[t]? = some m ∨ l.length = t) : fitsB l (t : Int) m = true := by
  unfold fitsB
  rcases h with h | h
  · have hlt := (List.getElem?_eq_some_iff.mp h).1
    rw [show ((t : Int)).toNat = t from rfl, h]
    dsimp only
    rw [eqJ_self hm, decide_eq_true (show (0 : Int) ≤ (t : Int) by omega), decide_eq_true (show (t : Int) < (l.length : Int) by omega)]
    simp
  · rw [decide_eq_true (show (t : Int) = (l.length : Int) by omega)]
    rfl
theorem Sch.tur (S : Sch n M Lk nl fa fb tb idx ls) (h : turI n fa fb tb idx = true) : TurnOk ls := fun l hl m hm p hp => by
  obtain ⟨i, k, hi, hk, hkl, rfl⟩ := S.mem hl hm
  have z := List.all_eq_true.mp (List.all_eq_true.mp h i (List.mem_range.mpr hi)) k hk
  obtain ⟨z1, z2⟩ := Bool.and_eq_true_iff.mp z
  have lk := S.lk k hkl
  obtain ⟨fa1, fb1⟩ := S.fab k hkl
  have go : ∀ {x t : Nat}, x < n → p.1 = ((M x : Nat) : Int) → p.2.1 = (t : Int) → ((idx x)[t]? = some k ∨ (idx x).length = t) → (0 ≤ p.1 ∧ p.1 < (ls.length : Int)) ∧ ∀ l', ls[p.1.toNat]? = some l' → fitsB l' p.2.1 (Lk k) = true := fun {x t} hx h1 h2 h3 => by
    have := S.lt x hx
    refine ⟨by rw [h1, S.len]; omega, fun l' hl' => ?_⟩
    rw [h1, show (((M x : Nat) : Int)).toNat = M x from rfl, S.at_ x hx] at hl'
    cases hl'
    rw [h2]
    refine fits_at lk.1 ?_
    rw [List.getElem?_map, List.length_map]
    exact h3.imp (fun h => by rw [h]; rfl) id
  rcases lk.parts hp with ⟨h1, h2⟩ | ⟨h1, h2⟩
  · exact go (t := 0) fa1 h1 h2 ((Bool.or_eq_true_iff.mp z1).imp of_decide_eq_true of_decide_eq_true)
  · exact go fb1 h1 h2 ((Bool.or_eq_true_iff.mp z2).imp of_decide_eq_true of_decide_eq_true)
theorem Sch.tak (S : Sch n M Lk nl fa fb tb idx ls) (h : takI n fa fb tb idx = true) : TakOk ls := fun l hl m hm l' hl' m' hm' p hp p' hp' e1 e2 => by
  obtain ⟨i, k, hi, hk, hkl, rfl⟩ := S.mem hl hm
  obtain ⟨i', k', hi', hk', hkl', rfl⟩ := S.mem hl' hm'
  have z := List.all_eq_true.mp (List.all_eq_true.mp (List.all_eq_true.mp (List.all_eq_true.mp h i (List.mem_range.mpr hi)) k hk) i' (List.mem_range.mpr hi')) k' hk'
  rcases Bool.or_eq_true_iff.mp z with z | z
  · rw [of_decide_eq_true z]
  exfalso
  obtain ⟨a1, b1⟩ := S.fab k hkl
  obtain ⟨a2, b2⟩ := S.fab k' hkl'
  have eq : ∀ {x y : Nat}, x < n → y < n → ((M x : Nat) : Int) = ((M y : Nat) : Int) → x = y := fun hx hy h => S.inj _ _ hx hy (by omega)
  simp only [Bool.not_eq_true', Bool.or_eq_false_iff, Bool.and_eq_false_iff, decide_eq_false_iff_not] at z
  obtain ⟨⟨⟨z1, z2⟩, z3⟩, z4⟩ := z
  rcases (S.lk k hkl).parts hp with ⟨h1, h2⟩ | ⟨h1, h2⟩ <;> rcases (S.lk k' hkl').parts hp' with ⟨g1, g2⟩ | ⟨g1, g2⟩
  · exact z1 (eq a1 a2 (by rw [← h1, ← g1, e1]))
  · have e := eq a1 b2 (by rw [← h1, ← g1, e1])
    rcases z2 with z2 | z2
    · exact z2 e
    · exact z2 (by omega)
  · have e := eq b1 a2 (by rw [← h1, ← g1, e1])
    rcases z3 with z3 | z3
    · exact z3 e
    · exact z3 (by omega)
  · have e := eq b1 b2 (by rw [← h1, ← g1, e1])
    rcases z4 with z4 | z4
    · exact z4 e
    · exact z4 (by omega)
/-- what is taken, by places -/
def TsAt (n : Nat) (M : Nat → Nat) (ts : List Nat) (c : Nat → Nat) : Prop := ts.length = n ∧ ∀ i, i < n → ts.getD (M i) 0 = c i
theorem Sch.heads (S : Sch n M Lk nl fa fb tb idx ls) {ts : List Nat} {c : Nat → Nat} (T : TsAt n M ts c) {m : Jm} : m ∈ headsL ls ts ↔ ∃ i k, i < n ∧ (idx i)[c i]? = some k ∧ m = Lk k := by
  unfold headsL
  rw [List.mem_filterMap]
  constructor
  · rintro ⟨o, ho, hm⟩
    have ho := List.mem_range.mp ho
    rw [S.len] at ho
    obtain ⟨i, hi, rfl⟩ := S.surj o ho
    rw [List.getD_eq_getElem?_getD, S.at_ i hi, T.2 i hi] at hm
    have hm : ((idx i).map Lk)[c i]? = some m := hm
    rw [List.getElem?_map] at hm
    obtain ⟨k, hk, rfl⟩ := Option.map_eq_some_iff.mp hm
    exact ⟨i, k, hi, hk, rfl⟩
  · rintro ⟨i, k, hi, hk, rfl⟩
    refine ⟨M i, List.mem_range.mpr (by rw [S.len]; exact S.lt i hi), ?_⟩
    rw [List.getD_eq_getElem?_getD, S.at_ i hi, T.2 i hi]
    show ((idx i).map Lk)[c i]? = _
    rw [List.getElem?_map, hk]
    rfl
theorem Sch.rdy (S : Sch n M Lk nl fa fb tb idx ls) {ts : List Nat} {c : Nat → Nat} (T : TsAt n M ts c) {k : Nat} (hk : k < nl) : readyB ts (Lk k) = rdI fa fb tb c k := by
  obtain ⟨a1, b1⟩ := S.fab k hk
  rw [(S.lk k hk).rdy, T.2 _ a1, T.2 _ b1]
  rfl
theorem Sch.tr (S : Sch n M Lk nl fa fb tb idx ls) : ∀ {seq : List Nat} {ts : List Nat} {c : Nat → Nat}, TsAt n M ts c → simB n fa fb tb idx c seq = true → ∃ ts', JTr ls ts (seq.map Lk) ts' ∧ TsAt n M ts' (endC fa fb c seq)
  | [], ts, c, T, h => by
    refine ⟨ts, .done ?_, T⟩
    unfold readyL
    refine List.filter_eq_nil_iff.mpr fun m hm => ?_
    obtain ⟨i, k, hi, hk, rfl⟩ := (S.heads T).mp hm
    have z := List.all_eq_true.mp h i (List.mem_range.mpr hi)
    rw [hk] at z
    have z : (!rdI fa fb tb c k) = true := z
    rw [S.rdy T (S.il i hi k (List.mem_of_getElem? hk))]
    cases c2 : rdI fa fb tb c k with
    | true => rw [c2] at z; cases z
    | false => exact fun h => nomatch h
  | k :: seq, ts, c, T, h => by
    unfold simB at h
    obtain ⟨h, hr⟩ := Bool.and_eq_true_iff.mp h
    obtain ⟨h, hu⟩ := Bool.and_eq_true_iff.mp h
    obtain ⟨he, hk⟩ := Bool.and_eq_true_iff.mp h
    obtain ⟨i, hi, hik⟩ := List.any_eq_true.mp he
    have hi := List.mem_range.mp hi
    have hik := of_decide_eq_true hik
    have hkl := S.il i hi k (List.mem_of_getElem? hik)
    obtain ⟨a1, b1⟩ := S.fab k hkl
    have lk := S.lk k hkl
    have T' : TsAt n M (Fs.bump ts (Lk k)) (bumpC fa fb c k) := by
      refine ⟨by unfold Fs.bump; rw [len_bumps]; exact T.1, fun j hj => ?_⟩
      rw [lk.bump (by rw [T.1]; exact S.lt _ a1) (by rw [T.1]; exact S.lt _ b1), T.2 j hj]
      unfold bumpC
      have q1 : (M j = M (fa k)) ↔ j = fa k := ⟨S.inj _ _ hj a1, fun z => by rw [z]⟩
      have q2 : (M j = M (fb k)) ↔ j = fb k := ⟨S.inj _ _ hj b1, fun z => by rw [z]⟩
      simp only [q1, q2]
    obtain ⟨ts', h1, h2⟩ := S.tr (seq := seq) T' hr
    refine ⟨ts', .step (fun z => ?_) (fun m hm => ?_) h1, h2⟩
    · have : Lk k ∈ readyL ls ts := List.mem_filter.mpr ⟨(S.heads T).mpr ⟨i, k, hi, hik, rfl⟩, by rw [S.rdy T hkl]; exact hk⟩
      rw [z] at this
      cases this
    · obtain ⟨hm1, hm2⟩ := List.mem_filter.mp hm
      obtain ⟨i2, k2, hi2, hk2, rfl⟩ := (S.heads T).mp hm1
      have z := List.all_eq_true.mp hu i2 (List.mem_range.mpr hi2)
      rw [hk2] at z
      have z : (!rdI fa fb tb c k2 || decide (k2 = k)) = true := z
      rw [S.rdy T (S.il i2 hi2 k2 (List.mem_of_getElem? hk2))] at hm2
      rw [hm2] at z
      have z : decide (k2 = k) = true := z
      rw [of_decide_eq_true z]
theorem Sch.lack (S : Sch n M Lk nl fa fb tb idx ls) {ts : List Nat} {c : Nat → Nat} (T : TsAt n M ts c) : lacksB ls ts = lackI n idx c := by
  rw [Bool.eq_iff_iff]
  unfold lacksB lackI
  rw [List.any_eq_true, List.any_eq_true]
  constructor
  · rintro ⟨o, ho, h⟩
    have ho := List.mem_range.mp ho
    rw [S.len] at ho
    obtain ⟨i, hi, rfl⟩ := S.surj o ho
    rw [List.getD_eq_getElem?_getD (l := ls), S.at_ i hi, T.2 i hi] at h
    refine ⟨i, List.mem_range.mpr hi, ?_⟩
    have h := of_decide_eq_true h
    have h : c i < ((idx i).map Lk).length := h
    rw [List.length_map] at h
    exact decide_eq_true h
  · rintro ⟨i, hi, h⟩
    have hi := List.mem_range.mp hi
    refine ⟨M i, List.mem_range.mpr (by rw [S.len]; exact S.lt i hi), ?_⟩
    rw [List.getD_eq_getElem?_getD (l := ls), S.at_ i hi, T.2 i hi]
    refine decide_eq_true ?_
    show c i < ((idx i).map Lk).length
    rw [List.length_map]
    exact of_decide_eq_true h
theorem ts0 (n : Nat) (M : Nat → Nat) (h : ∀ i, i < n → M i < n) : TsAt n M (List.replicate n 0) (fun _ => 0) := by
  refine ⟨List.length_replicate, fun i hi => ?_⟩
  rw [List.getD_eq_getElem?_getD, List.getElem?_replicate, if_pos (h i hi)]
  rfl
end
end Fs

set_option Elab.async false
set_option linter.all false
set_option maxRecDepth 100000
set_option maxHeartbeats 8000000
/-! the logs of a ring, of a chain; of one and of two meetings -/
namespace Fs
open PySem L2 Evl FsE FsC FsR FsK FsV FsD FsG
theorem part_at {t : Int} {m : Jm} {ls : List (List Jm)} {p : Jp} {a : Nat} (hp : p.1 = (a : Int)) (x : Nat) : (partS t m ls p)[x]? = (ls[x]?).map (fun l => l ++ if x = a ∧ p.2.1 = t then [m] else []) := by
  unfold partS pushL
  rw [hp, show ((a : Int)).toNat = a from rfl]
  by_cases c : p.2.1 = t
  · rw [if_pos c, List.getElem?_set]
    by_cases c2 : a = x
    · subst c2
      rw [if_pos rfl]
      by_cases c3 : a < ls.length
      · rw [if_pos c3, List.getD_eq_getElem?_getD, List.getElem?_eq_getElem c3]
        simp [c]
      · rw [if_neg c3, List.getElem?_eq_none (by omega)]
        rfl
    · rw [if_neg c2]
      have : ¬ (x = a ∧ p.2.1 = t) := fun z => c2 z.1.symm
      rw [if_neg this]
      simp
  · rw [if_neg c, if_neg (fun z => c z.2)]
    simp
theorem met_at {m : Jm} {a b tb : Nat} (h : IsLk m a b tb) (t : Int) (ls : List (List Jm)) (x : Nat) : (metS t ls m)[x]? = (ls[x]?).map (fun l => l ++ if (x = a ∧ 0 = t) ∨ (x = b ∧ (tb : Int) = t) then [m] else []) := by
  obtain ⟨_, hne, s1, s2, v1, v2, h⟩ := h
  unfold metS
  have tail : ∀ {l : List Jm} {P Q : Prop} [Decidable P] [Decidable Q], ¬ (P ∧ Q) → (l ++ if P then [m] else []) ++ (if Q then [m] else []) = l ++ if P ∨ Q then [m] else [] := fun {l P Q} _ _ hpq => by
    by_cases hp : P
    · have hq : ¬ Q := fun z => hpq ⟨hp, z⟩
      simp [hp, hq]
    · by_cases hq : Q
      · simp [hp, hq]
      · simp [hp, hq]
  have n1 : ¬ ((x = a ∧ (0 : Int) = t) ∧ (x = b ∧ (tb : Int) = t)) := fun z => hne (z.1.1.symm.trans z.2.1)
  rcases h with h | h
  · rw [h]
    show (partS t m (partS t m ls _) _)[x]? = _
    rw [part_at (a := b) rfl, part_at (a := a) rfl, Option.map_map]
    congr 1
    funext l
    exact tail n1
  · rw [h]
    show (partS t m (partS t m ls _) _)[x]? = _
    rw [part_at (a := a) rfl, part_at (a := b) rfl, Option.map_map]
    congr 1
    funext l
    show (l ++ if (x = b ∧ (tb : Int) = t) then [m] else []) ++ (if (x = a ∧ (0 : Int) = t) then [m] else []) = _
    rw [tail (fun z => n1 ⟨z.2, z.1⟩)]
    by_cases c : (x = a ∧ (0 : Int) = t) <;> by_cases d : (x = b ∧ (tb : Int) = t) <;> simp [c, d]
section
variable {n : Nat} {M : Nat → Nat} {Lk : Nat → Jm} {nl : Nat} {fa fb tb : Nat → Nat}
theorem mets_at {i : Nat} (inj : ∀ i j, i < n → j < n → M i = M j → i = j) (hi : i < n) (t : Nat) : ∀ {ks : List Nat} {ls : List (List Jm)}, (∀ k ∈ ks, IsLk (Lk k) (M (fa k)) (M (fb k)) (tb k) ∧ fa k < n ∧ fb k < n) →
    ((ks.map Lk).foldl (metS (t : Int)) ls)[M i]? = (ls[M i]?).map fun l => l ++ (ks.filter fun k => (decide (i = fa k) && decide (0 = t)) || (decide (i = fb k) && decide (tb k = t))).map Lk
  | [], ls, _ => by simp
  | k :: ks, ls, h => by
    obtain ⟨lk, a1, b1⟩ := h k (List.mem_cons_self ..)
    rw [List.map_cons, List.foldl_cons, mets_at inj hi t (ks := ks) (fun k' hk' => h k' (List.mem_cons_of_mem _ hk')), met_at lk, Option.map_map]
    congr 1
    funext l
    have e : ((M i = M (fa k) ∧ (0 : Int) = (t : Int)) ∨ (M i = M (fb k) ∧ ((tb k : Nat) : Int) = (t : Int))) ↔ ((decide (i = fa k) && decide (0 = t)) || (decide (i = fb k) && decide (tb k = t))) = true := by
      have q1 : (M i = M (fa k)) ↔ i = fa k := ⟨inj _ _ hi a1, fun z => by rw [z]⟩
      have q2 : (M i = M (fb k)) ↔ i = fb k := ⟨inj _ _ hi b1, fun z => by rw [z]⟩
      simp only [q1, q2, Bool.or_eq_true, Bool.and_eq_true, decide_eq_true_eq]
      omega
    show (l ++ _) ++ _ = _
    rw [List.filter_cons]
    by_cases c : ((decide (i = fa k) && decide (0 = t)) || (decide (i = fb k) && decide (tb k = t))) = true
    · rw [if_pos c, if_pos (e.mpr c), List.map_cons, List.append_assoc]
      rfl
    · rw [if_neg c, if_neg (fun z => c (e.mp z)), List.append_nil]
def idxOf (nl : Nat) (fa fb tb : Nat → Nat) (i : Nat) : List Nat := ((List.range nl).filter fun k => (decide (i = fa k) && decide (0 = 0)) || (decide (i = fb k) && decide (tb k = 0))) ++ ((List.range nl).filter fun k => (decide (i = fa k) && decide (0 = 1)) || (decide (i = fb k) && decide (tb k = 1)))
theorem logsF_at {i : Nat} (lt : ∀ i, i < n → M i < n) (inj : ∀ i j, i < n → j < n → M i = M j → i = j) (hi : i < n) (h : ∀ k, k < nl → IsLk (Lk k) (M (fa k)) (M (fb k)) (tb k) ∧ fa k < n ∧ fb k < n) :
    (logsF ((List.range nl).map Lk) n)[M i]? = some ((idxOf nl fa fb tb i).map Lk) := by
  have h' : ∀ k ∈ List.range nl, IsLk (Lk k) (M (fa k)) (M (fb k)) (tb k) ∧ fa k < n ∧ fb k < n := fun k hk => h k (List.mem_range.mp hk)
  unfold logsF
  rw [show (1 : Int) = ((1 : Nat) : Int) from rfl, show (0 : Int) = ((0 : Nat) : Int) from rfl, mets_at inj hi 1 h', mets_at inj hi 0 h', List.getElem?_replicate, if_pos (lt i hi)]
  show some (([] ++ _) ++ _) = _
  rw [List.nil_append, ← List.map_append]
  rfl
theorem len_mets {t : Int} : ∀ {ms : List Jm} {ls : List (List Jm)}, (ms.foldl (metS t) ls).length = ls.length
  | [], _ => rfl
  | m :: ms, ls => by
    rw [List.foldl_cons, len_mets (ms := ms)]
    exact len_metS
theorem len_logsF {ms : List Jm} {n : Nat} : (logsF ms n).length = n := by
  unfold logsF
  rw [len_mets, len_mets, List.length_replicate]
theorem sch_logs (lt : ∀ i, i < n → M i < n) (inj : ∀ i j, i < n → j < n → M i = M j → i = j) (surj : ∀ o, o < n → ∃ i, i < n ∧ M i = o) (h : ∀ k, k < nl → IsLk (Lk k) (M (fa k)) (M (fb k)) (tb k) ∧ fa k < n ∧ fb k < n) :
    Sch n M Lk nl fa fb tb (idxOf nl fa fb tb) (logsF ((List.range nl).map Lk) n) where
  lt := lt
  inj := inj
  surj := surj
  lk k hk := (h k hk).1
  fab k hk := (h k hk).2
  len := len_logsF
  at_ i hi := logsF_at lt inj hi h
  il i hi k hk := by
    unfold idxOf at hk
    rcases List.mem_append.mp hk with hk | hk <;> exact List.mem_range.mp (List.mem_filter.mp hk).1
end
/-! the machines' places -/
def posM (ms : List Int) (i : Nat) : Nat := (ms.getD i 0).toNat
theorem mach_facts {n : Nat} {ms : List Int} (h : MachOk n ms) : ms.length = n ∧ (∀ i, i < n → ms.getD i 0 = ((posM ms i : Nat) : Int)) ∧ (∀ i, i < n → posM ms i < n) ∧ (∀ i j, i < n → j < n → posM ms i = posM ms j → i = j) ∧ ∀ o, o < n → ∃ i, i < n ∧ posM ms i = o := by
  have hl : ms.length = n := by rw [h.perm.length_eq, List.length_map, List.length_range]
  have nd : ms.Nodup := h.perm.nodup_iff.mpr (List.Pairwise.map _ (fun a b hab z => hab (by omega)) List.nodup_range)
  have hm : ∀ i, i < n → ∃ k : Nat, k < n ∧ ms.getD i 0 = (k : Int) := fun i hi => by
    have e : ms.getD i 0 = ms[i]'(by omega) := by rw [List.getD_eq_getElem?_getD, List.getElem?_eq_getElem (by omega)]; rfl
    have := h.perm.mem_iff.mp (List.getElem_mem (l := ms) (n := i) (by omega))
    obtain ⟨k, hk, e2⟩ := List.mem_map.mp this
    exact ⟨k, List.mem_range.mp hk, by rw [e, ← e2]⟩
  have p1 : ∀ i, i < n → ms.getD i 0 = ((posM ms i : Nat) : Int) := fun i hi => by
    obtain ⟨k, hk, e⟩ := hm i hi
    unfold posM
    rw [e]
    rfl
  refine ⟨hl, p1, fun i hi => ?_, fun i j hi hj e => ?_, fun o ho => ?_⟩
  · obtain ⟨k, hk, e⟩ := hm i hi
    unfold posM
    rw [e]
    exact hk
  · have e2 : ms.getD i 0 = ms.getD j 0 := by rw [p1 i hi, p1 j hj, e]
    have g : ∀ i (hi : i < n), ms.getD i 0 = ms[i]'(by omega) := fun i hi => by rw [List.getD_eq_getElem?_getD, List.getElem?_eq_getElem (by omega)]; rfl
    rw [g i hi, g j hj] at e2
    exact (List.getElem_inj nd).mp e2
  · have : (o : Int) ∈ ms := h.perm.mem_iff.mpr (List.mem_map.mpr ⟨o, List.mem_range.mpr ho, rfl⟩)
    obtain ⟨i, hi, e⟩ := List.mem_iff_getElem.mp this
    refine ⟨i, by omega, ?_⟩
    unfold posM
    rw [List.getD_eq_getElem?_getD, List.getElem?_eq_getElem hi]
    show (ms[i]).toNat = o
    rw [e]
    rfl
theorem link_is {a b t : Nat} {num d : Int} (h : a ≠ b) : IsLk (linkJ (a : Int) 0 (b : Int) (t : Int) num d) a b t := by
  refine ⟨link_ok _ _ _ _ _ _, h, d % 3, d / 3 % 3, .int (d - 400), .int (d / 2), ?_⟩
  unfold linkJ
  dsimp only
  split
  · exact .inr rfl
  · exact .inl rfl
end Fs

set_option Elab.async false
set_option linter.all false
set_option maxRecDepth 100000
set_option maxHeartbeats 8000000
/-! the ring, the chain, the one and the two: what joined answers -/
namespace Fs
open PySem L2 Evl FsE FsC FsR FsK FsV FsD FsG
def JNone (ls : List (List Jm)) : Prop := LsOk ls ∧ (¬ (EntOk ls ∧ TurnOk ls ∧ TakOk ls) ∨ ∃ ms ts', JTr ls (List.replicate ls.length 0) ms ts' ∧ ms.length ≤ 100 ∧ lacksB ls ts' = true)
def JIs (ls : List (List Jm)) (ms : List Jm) : Prop := LsOk ls ∧ EntOk ls ∧ TurnOk ls ∧ TakOk ls ∧ ∃ ts', JTr ls (List.replicate ls.length 0) ms ts' ∧ ms.length ≤ 100 ∧ lacksB ls ts' = false
section
variable {n : Nat} {M : Nat → Nat} {Lk : Nat → Jm} {nl : Nat} {fa fb tb : Nat → Nat} {idx : Nat → List Nat} {ls : List (List Jm)}
theorem Sch.is (S : Sch n M Lk nl fa fb tb idx ls) (seq : List Nat) (hn : n ≤ 10) (h20 : ∀ i, i < n → (idx i).length ≤ 20) (hs : seq.length ≤ 100) (h1 : entI n fa fb tb idx = true) (h2 : turI n fa fb tb idx = true) (h3 : takI n fa fb tb idx = true) (h4 : simB n fa fb tb idx (fun _ => 0) seq = true)
    (h5 : lackI n idx (endC fa fb (fun _ => 0) seq) = false) : JIs ls (seq.map Lk) := by
  obtain ⟨ts', g1, g2⟩ := S.tr (ts0 n M S.lt) h4
  refine ⟨S.ok hn h20, S.ent h1, S.tur h2, S.tak h3, ts', by rw [S.len]; exact g1, by rw [List.length_map]; exact hs, ?_⟩
  rw [S.lack g2]
  exact h5
theorem Sch.none (S : Sch n M Lk nl fa fb tb idx ls) (seq : List Nat) (hn : n ≤ 10) (h20 : ∀ i, i < n → (idx i).length ≤ 20) (hs : seq.length ≤ 100) (h4 : simB n fa fb tb idx (fun _ => 0) seq = true)
    (h5 : lackI n idx (endC fa fb (fun _ => 0) seq) = true) : JNone ls := by
  obtain ⟨ts', g1, g2⟩ := S.tr (ts0 n M S.lt) h4
  refine ⟨S.ok hn h20, .inr ⟨_, ts', by rw [S.len]; exact g1, by rw [List.length_map]; exact hs, ?_⟩⟩
  rw [S.lack g2]
  exact h5
theorem Sch.gone (S : Sch n M Lk nl fa fb tb idx ls) {i : Nat} (hi : i < n) : Sch n M Lk nl fa fb tb (fun j => if j = i then [] else idx j) (ls.set (M i) []) where
  lt := S.lt
  inj := S.inj
  surj := S.surj
  lk := S.lk
  fab := S.fab
  len := by rw [List.length_set]; exact S.len
  at_ j hj := by
    rw [List.getElem?_set]
    by_cases c : j = i
    · subst c
      rw [if_pos rfl, if_pos (by rw [S.len]; exact S.lt j hj), if_pos rfl]
      rfl
    · rw [if_neg (fun z => c (S.inj j i hj hi z.symm)), if_neg c]
      exact S.at_ j hj
  il j hj k hk := by
    by_cases c : j = i
    · rw [if_pos c] at hk
      cases hk
    · rw [if_neg c] at hk
      exact S.il j hj k hk
end
def fA (k : Nat) : Nat := k
def fB (n k : Nat) : Nat := (k + 1) % n
def tB (n : Nat) (ring : Bool) (k : Nat) : Nat := if (ring || decide ((k + 1) % n < n - 1)) = true then 1 else 0
def nL (n : Nat) (ring : Bool) : Nat := n - if ring = true then 0 else 1
def lkF (n : Nat) (ms row : List Int) (ring : Bool) (k : Nat) : Jm := linkJ ((posM ms (fA k) : Nat) : Int) 0 ((posM ms (fB n k) : Nat) : Int) ((tB n ring k : Nat) : Int) (k : Int) (row.getD (8 + k) 0)
theorem links_eq {n : Nat} {ms : List Int} (h : MachOk n ms) (row : List Int) (ring : Bool) : linksL ms row ring = (List.range (nL n ring)).map (lkF n ms row ring) := by
  obtain ⟨hl, hp, _⟩ := mach_facts h
  have l3 := h.lo
  unfold linksL
  rw [hl]
  refine List.map_congr_left fun k hk => ?_
  have hk : k < nL n ring := List.mem_range.mp hk
  have hkn : k < n := by unfold nL at hk; omega
  unfold lkF
  rw [hp k hkn, hp ((k + 1) % n) (Nat.mod_lt _ (by omega))]
  have : (if (ring || decide ((k + 1) % n < n - 1)) = true then (1 : Int) else 0) = ((tB n ring k : Nat) : Int) := by
    unfold tB
    split <;> rfl
  rw [this]
  rfl
theorem lk_is {n : Nat} {ms : List Int} (h : MachOk n ms) (row : List Int) (ring : Bool) : ∀ k, k < nL n ring → IsLk (lkF n ms row ring k) (posM ms (fA k)) (posM ms (fB n k)) (tB n ring k) ∧ fA k < n ∧ fB n k < n := fun k hk => by
  obtain ⟨hl, hp, lt, inj, _⟩ := mach_facts h
  have l3 := h.lo
  have hkn : k < n := by unfold nL at hk; omega
  have hb : fB n k < n := Nat.mod_lt _ (by omega)
  refine ⟨link_is fun z => ?_, hkn, hb⟩
  have e : fA k = fB n k := inj _ _ hkn hb z
  unfold fA fB at e
  rcases Nat.lt_or_ge (k + 1) n with c | c
  · rw [Nat.mod_eq_of_lt c] at e
    omega
  · have : k + 1 = n := by omega
    rw [this, Nat.mod_self] at e
    omega
theorem sch_links {n : Nat} {ms : List Int} (h : MachOk n ms) (row : List Int) (ring : Bool) : Sch n (posM ms) (lkF n ms row ring) (nL n ring) fA (fB n) (tB n ring) (idxOf (nL n ring) fA (fB n) (tB n ring)) (logsF (linksL ms row ring) n) := by
  obtain ⟨hl, hp, lt, inj, surj⟩ := mach_facts h
  rw [links_eq h row ring]
  exact sch_logs lt inj surj (lk_is h row ring)
theorem n3456 {n : Nat} {ms : List Int} (h : MachOk n ms) : n = 3 ∨ n = 4 ∨ n = 5 ∨ n = 6 := by
  have := h.lo
  have := h.hi
  omega
theorem ring_none {n : Nat} {ms : List Int} (h : MachOk n ms) (row : List Int) : JNone (logsF (linksL ms row true) n) := by
  have S := sch_links h row true
  refine S.none [] (by have := h.hi; omega) ?_ (by decide) ?_ ?_
  · rcases n3456 h with rfl | rfl | rfl | rfl <;> decide +kernel
  · rcases n3456 h with rfl | rfl | rfl | rfl <;> decide +kernel
  · rcases n3456 h with rfl | rfl | rfl | rfl <;> decide +kernel
theorem chain_seq {n : Nat} {ms : List Int} (h : MachOk n ms) (row : List Int) : ((List.range (nL n false)).reverse).map (lkF n ms row false) = (linksL ms row false).reverse := by
  rw [links_eq h row false, List.map_reverse]
theorem chain_is {n : Nat} {ms : List Int} (h : MachOk n ms) (row : List Int) : JIs (logsF (linksL ms row false) n) (linksL ms row false).reverse := by
  rw [← chain_seq h row]
  have S := sch_links h row false
  refine S.is _ (by have := h.hi; omega) ?_ ?_ ?_ ?_ ?_ ?_ ?_
  · rcases n3456 h with rfl | rfl | rfl | rfl <;> decide +kernel
  · rcases n3456 h with rfl | rfl | rfl | rfl <;> decide +kernel
  · rcases n3456 h with rfl | rfl | rfl | rfl <;> decide +kernel
  · rcases n3456 h with rfl | rfl | rfl | rfl <;> decide +kernel
  · rcases n3456 h with rfl | rfl | rfl | rfl <;> decide +kernel
  · rcases n3456 h with rfl | rfl | rfl | rfl <;> decide +kernel
  · rcases n3456 h with rfl | rfl | rfl | rfl <;> decide +kernel
theorem chain_gone {n : Nat} {ms : List Int} (h : MachOk n ms) (row : List Int) : JIs ((logsF (linksL ms row false) n).set (posM ms 0) []) (linksL ms row false).reverse := by
  rw [← chain_seq h row]
  have S := (sch_links h row false).gone (i := 0) (by have := h.lo; omega)
  refine S.is _ (by have := h.hi; omega) ?_ ?_ ?_ ?_ ?_ ?_ ?_
  · rcases n3456 h with rfl | rfl | rfl | rfl <;> decide +kernel
  · rcases n3456 h with rfl | rfl | rfl | rfl <;> decide +kernel
  · rcases n3456 h with rfl | rfl | rfl | rfl <;> decide +kernel
  · rcases n3456 h with rfl | rfl | rfl | rfl <;> decide +kernel
  · rcases n3456 h with rfl | rfl | rfl | rfl <;> decide +kernel
  · rcases n3456 h with rfl | rfl | rfl | rfl <;> decide +kernel
  · rcases n3456 h with rfl | rfl | rfl | rfl <;> decide +kernel
def oneJ (ms row : List Int) : Jm := linkJ (ms.getD 0 0) 0 (ms.getD 1 0) 0 0 (row.getD 14 0)
def twoJ (ms row : List Int) : Jm := linkJ (ms.getD 2 0) 0 (ms.getD 1 0) 0 1 (row.getD 15 0)
def oneL (n : Nat) (ms row : List Int) : List (List Jm) := (List.replicate n []).set (posM ms 0) [oneJ ms row]
def twoL (n : Nat) (ms row : List Int) : List (List Jm) := (oneL n ms row).set (posM ms 2) [twoJ ms row]
theorem one_lk {n : Nat} {ms : List Int} (h : MachOk n ms) (row : List Int) : IsLk (oneJ ms row) (posM ms 0) (posM ms 1) 0 := by
  obtain ⟨hl, hp, lt, inj, surj⟩ := mach_facts h
  have l3 := h.lo
  unfold oneJ
  rw [hp 0 (by omega), hp 1 (by omega)]
  exact link_is fun z => by cases inj _ _ (by omega) (by omega) z
theorem two_lk {n : Nat} {ms : List Int} (h : MachOk n ms) (row : List Int) : IsLk (twoJ ms row) (posM ms 2) (posM ms 1) 0 := by
  obtain ⟨hl, hp, lt, inj, surj⟩ := mach_facts h
  have l3 := h.lo
  unfold twoJ
  rw [hp 2 (by omega), hp 1 (by omega)]
  exact link_is fun z => by cases inj _ _ (by omega) (by omega) z
theorem one_is {n : Nat} {ms : List Int} (h : MachOk n ms) (row : List Int) : JIs (oneL n ms row) [oneJ ms row] := by
  obtain ⟨hl, hp, lt, inj, surj⟩ := mach_facts h
  have l3 := h.lo
  have S : Sch n (posM ms) (fun _ => oneJ ms row) 1 (fun _ => 0) (fun _ => 1) (fun _ => 0) (fun i => if i = 0 then [0] else []) (oneL n ms row) := {
    lt := lt
    inj := inj
    surj := surj
    lk := fun _ _ => one_lk h row
    fab := fun _ _ => ⟨by omega, by omega⟩
    len := by unfold oneL; rw [List.length_set, List.length_replicate]
    at_ := fun i hi => by
      unfold oneL
      rw [List.getElem?_set]
      by_cases c : i = 0
      · subst c
        rw [if_pos rfl, if_pos (by rw [List.length_replicate]; exact lt 0 hi)]
        rfl
      · rw [if_neg (fun z => c (inj i 0 hi (by omega) z.symm)), List.getElem?_replicate, if_pos (lt i hi), if_neg c]
        rfl
    il := fun i hi k hk => by
      split at hk
      · rcases List.mem_singleton.mp hk with rfl
        decide
      · cases hk }
  refine S.is [0] (by have := h.hi; omega) ?_ ?_ ?_ ?_ ?_ ?_ ?_
  · rcases n3456 h with rfl | rfl | rfl | rfl <;> decide +kernel
  · rcases n3456 h with rfl | rfl | rfl | rfl <;> decide +kernel
  · rcases n3456 h with rfl | rfl | rfl | rfl <;> decide +kernel
  · rcases n3456 h with rfl | rfl | rfl | rfl <;> decide +kernel
  · rcases n3456 h with rfl | rfl | rfl | rfl <;> decide +kernel
  · rcases n3456 h with rfl | rfl | rfl | rfl <;> decide +kernel
  · rcases n3456 h with rfl | rfl | rfl | rfl <;> decide +kernel
theorem link_num {a ta b tb num d a' ta' b' tb' num' d' : Int} (h : linkJ a ta b tb num d = linkJ a' ta' b' tb' num' d') : num = num' := by
  unfold linkJ at h
  have h := congrArg Prod.fst h
  dsimp only at h
  injection h with h
  injection h with _ h
  injection h with h _
  injection h
theorem two_none {n : Nat} {ms : List Int} (h : MachOk n ms) (row : List Int) : JNone (twoL n ms row) := by
  obtain ⟨hl, hp, lt, inj, surj⟩ := mach_facts h
  have l3 := h.lo
  have ne : posM ms 2 ≠ posM ms 0 := fun z => by cases inj _ _ (by omega) (by omega) z
  have a0 : (twoL n ms row)[posM ms 0]? = some [oneJ ms row] := by
    unfold twoL oneL
    rw [List.getElem?_set_ne ne, List.getElem?_set_self (by rw [List.length_replicate]; exact lt 0 (by omega))]
  have a2 : (twoL n ms row)[posM ms 2]? = some [twoJ ms row] := by
    unfold twoL oneL
    rw [List.getElem?_set_self (by rw [List.length_set, List.length_replicate]; exact lt 2 (by omega))]
  have all : ∀ l ∈ twoL n ms row, l = [] ∨ l = [oneJ ms row] ∨ l = [twoJ ms row] := fun l hl => by
    unfold twoL oneL at hl
    rcases List.mem_or_eq_of_mem_set hl with hl | hl
    · rcases List.mem_or_eq_of_mem_set hl with hl | hl
      · exact .inl (List.mem_replicate.mp hl).2
      · exact .inr (.inl hl)
    · exact .inr (.inr hl)
  refine ⟨⟨by unfold twoL oneL; rw [List.length_set, List.length_set, List.length_replicate]; have := h.hi; omega, fun l hl => ?_, fun l hl m hm => ?_⟩, .inl fun ⟨_, _, ht⟩ => ?_⟩
  · rcases all l hl with rfl | rfl | rfl <;> exact Nat.le_of_ble_eq_true rfl
  · rcases all l hl with rfl | rfl | rfl
    · cases hm
    · rcases List.mem_singleton.mp hm with rfl
      exact (one_lk h row).1
    · rcases List.mem_singleton.mp hm with rfl
      exact (two_lk h row).1
  · obtain ⟨p, hp1, hp2, hp3⟩ := (one_lk h row).hasB
    obtain ⟨q, hq1, hq2, hq3⟩ := (two_lk h row).hasB
    have := ht _ (List.mem_of_getElem? a0) _ (List.mem_singleton.mpr rfl) _ (List.mem_of_getElem? a2) _ (List.mem_singleton.mpr rfl) p hp1 q hq1 (by rw [hp2, hq2]) (by rw [hp3, hq3])
    have := link_num this
    cases this
end Fs

set_option Elab.async false
set_option linter.all false
set_option maxRecDepth 100000
set_option maxHeartbeats 8000000
/-! what the law takes of its own parts -/
namespace Fs
open PySem L2 Evl FsE FsC FsR FsK FsV FsD FsG
theorem lsa_mem {α : Type} {R R' : Hp → V → α → Prop} {H H' : Hp} : ∀ {vs : List V} {xs : List α}, LsA R H vs xs → (∀ v ∈ vs, ∀ x, R H v x → R' H' v x) → LsA R' H' vs xs
  | [], [], _, _ => trivial
  | [], _ :: _, h, _ => h.elim
  | _ :: _, [], h, _ => h.elim
  | v :: vs, x :: xs, h, k => ⟨k v (List.mem_cons_self ..) x h.1, lsa_mem h.2 fun v hv => k v (List.mem_cons_of_mem _ hv)⟩
theorem lsa_set2 {α : Type} {R : Hp → V → α → Prop} {H : Hp} : ∀ {vs : List V} {xs : List α} {k : Nat} {v : V} {x : α}, LsA R H vs xs → R H v x → LsA R H (vs.set k v) (xs.set k x)
  | [], [], _, _, _, _, _ => trivial
  | [], _ :: _, _, _, _, h, _ => h.elim
  | _ :: _, [], _, _, _, h, _ => h.elim
  | _ :: _, _ :: _, 0, _, _, h, r => ⟨r, h.2⟩
  | _ :: _, _ :: _, k + 1, _, _, h, r => ⟨h.1, lsa_set2 (k := k) h.2 r⟩
/-- one log is another list -/
theorem LgN.lose {H H1 : Hp} {L p : Addr} {as : List Addr} {ls : List (List Jm)} (N : LgN H L as ls) (hp : H p = none) (e : Ex H H1) (h1 : H1 p = some (.lst [])) (k : Nat) : LgsAt (upd H1 L (.lst ((as.map V.ref).set k (.ref p)))) L (ls.set k []) := by
  have hL := N.at_
  have npL : p ≠ L := fun z => by rw [z, hL] at hp; cases hp
  have tk : TK H1 (upd H1 L (.lst ((as.map V.ref).set k (.ref p)))) := tk_lst (e _ _ hL)
  refine ⟨_, upd_same, lsa_set2 ?_ ⟨p, [], rfl, by rw [upd_ne npL]; exact h1, DaL.nil⟩⟩
  refine lsa_mem N.ls_ fun v hv l ⟨a, xs, e2, g1, g2⟩ => ?_
  subst e2
  obtain ⟨b, hb, e3⟩ := List.mem_map.mp hv
  injection e3 with e3
  subst e3
  have nb : b ≠ L := fun z => N.ne (z ▸ hb)
  exact ⟨b, xs, rfl, by rw [upd_ne nb]; exact e _ _ g1, (g2.ex e).keep tk⟩
/-- one log is longer -/
theorem LgN.push {H : Hp} {L a : Addr} {as : List Addr} {ls : List (List Jm)} {k : Nat} {xs : List V} {v : V} {l : List Jm} {m : Jm} (N : LgN H L as ls) (ha : as[k]? = some a) (hx : H a = some (.lst xs)) (hd : DaL H xs (l.map dJm)) (hv : DaAt H v (dJm m)) : LgN (upd H a (.lst (xs ++ [v]))) L as (ls.set k (l ++ [m])) := by
  have tk : TK H (upd H a (.lst (xs ++ [v]))) := tk_lst hx
  refine N.put ha hx ?_
  rw [List.map_append]
  exact DaL.snoc (hd.keep tk) (hv.keep tk)
/-! data of the logs -/
def Sk (k : Nat) (d : PyData) : Prop := d.canLay0 = true ∧ d.depth ≤ k
theorem lay_all : ∀ {ds : List PyData}, (∀ d ∈ ds, d.canLay0 = true) → PyData.canLayAll0 ds = true
  | [], _ => by simp [PyData.canLayAll0]
  | d :: ds, h => by
    have h1 := h d (List.mem_cons_self ..)
    have h2 := lay_all fun d hd => h d (List.mem_cons_of_mem _ hd)
    simp [PyData.canLayAll0, h1, h2]
theorem Sk.lst {k : Nat} {ds : List PyData} (h : ∀ d ∈ ds, Sk k d) : Sk (k + 1) (.list ds) := by
  refine ⟨by simp [PyData.canLay0, lay_all fun d hd => (h d hd).1], ?_⟩
  have := depthAll_le fun d hd => (h d hd).2
  simp only [PyData.depth]
  omega
theorem Sk.jm {m : Jm} (h : JmOk m) : Sk 7 (dJm m) := ⟨lay_pl _ (pk_jm h).1, (pk_jm h).2⟩
theorem Sk.sh {k : Nat} {d : PyData} (h : Sk k d) (hk : k ≤ 64) : SeqAt.shaped d = true := by
  show (d.canLay0 && decide (d.depth ≤ 64)) = true
  rw [h.1, decide_eq_true (Nat.le_trans h.2 hk)]
  rfl
def dLog (l : List Jm) : PyData := .list (l.map dJm)
def dLogs (ls : List (List Jm)) : PyData := .list (ls.map dLog)
theorem sk_log {l : List Jm} (h : ∀ m ∈ l, JmOk m) : Sk 8 (dLog l) := Sk.lst fun d hd => by
  obtain ⟨m, hm, rfl⟩ := List.mem_map.mp hd
  exact Sk.jm (h m hm)
theorem sk_logs {ls : List (List Jm)} (h : ∀ l ∈ ls, ∀ m ∈ l, JmOk m) : Sk 9 (dLogs ls) := Sk.lst fun d hd => by
  obtain ⟨l, hl, rfl⟩ := List.mem_map.mp hd
  exact sk_log (h l hl)
theorem dp_log {K : PySem.W.Frag} {H : Hp} {v : V} {l : List Jm} (h : LgAt H v l) : Dp K H v (dLog l) := by
  obtain ⟨a, xs, rfl, h1, h2⟩ := h
  exact .lst (sq_of h1) (dp_dal h2)
theorem dp_lsa {K : PySem.W.Frag} {H : Hp} : ∀ {vs : List V} {ls : List (List Jm)}, LsA LgAt H vs ls → DpAll K H vs (ls.map dLog)
  | [], [], _ => .nil
  | [], _ :: _, h => h.elim
  | _ :: _, [], h => h.elim
  | _ :: _, _ :: _, h => .cons (dp_log h.1) (dp_lsa h.2)
theorem dp_lgs {K : PySem.W.Frag} {H : Hp} {L : Addr} {ls : List (List Jm)} (h : LgsAt H L ls) : Dp K H (.ref L) (dLogs ls) := by
  obtain ⟨as, h1, h2⟩ := h
  exact .lst (sq_of h1) (dp_lsa h2)
section
variable {σ : L2.St} {H : Hp} {te ta tb tn t1 t2 t3 : TE} {K : PySem.W.Frag}
theorem rv_neSm {x y : V} {d : PyData} (hx : ∀ H1, Ex H H1 → Dp K H1 x d) (hy : ∀ H1, Ex H H1 → Dp K H1 y d) (hs : SeqAt.shaped d = true) : RV (rNeD K) x y H (.bl false) := fun H1 e Q q => ⟨d, d, hx H1 e, hy H1 e, hs, hs, by rw [SeqAt.eqv_refl d (SeqAt.canLay_of_shaped hs)]; exact q H1 (Ex.refl H1)⟩
theorem ev_neLD {ds : List PyData} (ha : EvLD ta σ H ds) (hb : EvLD tb σ H ds) (hs : SeqAt.shaped (.list ds) = true) : Ev (tOp (rNeD K) ta tb) σ H (.bl false) := fun H1 e Q q =>
  ha H1 e _ fun a xs H2 _ e2 h2 hd => hb H2 (e.trans e2) _ fun b ys H3 _ e3 h3 he => rv_neSm (fun H4 e4 => .lst (sq_of ((e3.trans e4) _ _ h2)) (dp_dal (hd.ex (e3.trans e4)))) (fun H4 e4 => .lst (sq_of (e4 _ _ h3)) (dp_dal (he.ex e4))) hs H3 (Ex.refl H3) Q fun H4 e4 => q H4 ((e2.trans e3).trans e4)
theorem rv_isN {x : V} : RV (fun x y H Q => y = .non ∧ Q (.bl (decide (x = .non))) H) x .non H (.bl (decide (x = .non))) := fun H1 e Q q => ⟨rfl, q H1 (Ex.refl H1)⟩
theorem rv_notN {x : V} : RV (fun x y H Q => y = .non ∧ Q (.bl (!decide (x = .non))) H) x .non H (.bl (!decide (x = .non))) := fun H1 e Q q => ⟨rfl, q H1 (Ex.refl H1)⟩
theorem eld_1 {d : PyData} {v : V} (h : Ev te σ H v) (hd : DaAt H v d) : EvLD (tLst (tCons te tNil)) σ H [d] := fun H1 e1 Q q =>
  h H1 e1 _ fun H2 e2 => ⟨by show 1 ≤ sizeLine; decide, fun p hp => q p _ _ (fresh_back e2 hp) (e2.trans (Ex.new hp)) upd_same (DaL.cons (hd.ex ((e1.trans e2).trans (Ex.new hp))) DaL.nil)⟩
theorem eld_links {E : L2.St → XK} {mr rr : Addr} {ms row : List Int} {ring : Bool} (h1 : Ev t1 σ H (.ref mr)) (h2 : Ev t2 σ H (.ref rr)) (h3 : Ev t3 σ H (.bl ring)) (hm : H mr = some (.lst (ms.map V.int))) (n3 : 3 ≤ ms.length) (n6 : ms.length ≤ 6) (hr : H rr = some (.lst (row.map V.int))) (r16 : row.length = 16) :
    EvLD (tCallS spLks E (tCons t1 (tCons t2 (tCons t3 tNil)))) σ H ((linksL ms row ring).map dJm) := fun H1 e1 Q q =>
  h1 H1 e1 _ fun H2 e2 => h2 H2 (e1.trans e2) _ fun H3 e3 => h3 H3 ((e1.trans e2).trans e3) _ fun H4 e4 =>
    ⟨mr, rr, ms, row, ring, rfl, (((e1.trans e2).trans e3).trans e4) _ _ hm, n3, n6, (((e1.trans e2).trans e3).trans e4) _ _ hr, r16, fun a xs H5 ha e5 h5 hd => q a xs H5 (fresh_back ((e2.trans e3).trans e4) ha) (((e2.trans e3).trans e4).trans e5) h5 hd⟩
/-- the logs of some meetings -/
def EvLg (te : TE) (σ : L2.St) (H : Hp) (ls : List (List Jm)) : Prop := ∀ H1, Ex H H1 → ∀ Q : VK, (∀ L as H2, H1 L = none → (∀ a ∈ as, H1 a = none) → Ex H1 H2 → LgN H2 L as ls → Q (.ref L) H2) → te σ H1 Q
theorem elg_logs {E : L2.St → XK} {ms : List Jm} {n : Nat} (h : EvLD te σ H (ms.map dJm)) (hn : Ev tn σ H (.int (n : Int))) (ok : ∀ m ∈ ms, JmOk m ∧ ∀ p ∈ m.2, 0 ≤ p.1 ∧ p.1 < (n : Int)) (h6 : ms.length ≤ 6) (n6 : n ≤ 6) : EvLg (tCallS spLgs E (tCons te (tCons tn tNil))) σ H (logsF ms n) := fun H1 e1 Q q =>
  h H1 e1 _ fun p xs H2 hp e2 h2 hd => hn H2 (e1.trans e2) _ fun H3 e3 => ⟨p, xs, ms, n, rfl, e3 _ _ h2, hd.ex e3, ok, h6, n6, fun L as H4 hL has e4 N => q L as H4 (fresh_back (e2.trans e3) hL) (fun a ha => fresh_back (e2.trans e3) (has a ha)) ((e2.trans e3).trans e4) N⟩
theorem elg_logsV {E : L2.St → XK} {ms : List Jm} {n : Nat} {p : Addr} {xs : List V} (h : Ev te σ H (.ref p)) (hp : H p = some (.lst xs)) (hd : DaL H xs (ms.map dJm)) (hn : Ev tn σ H (.int (n : Int))) (ok : ∀ m ∈ ms, JmOk m ∧ ∀ p ∈ m.2, 0 ≤ p.1 ∧ p.1 < (n : Int)) (h6 : ms.length ≤ 6) (n6 : n ≤ 6) : EvLg (tCallS spLgs E (tCons te (tCons tn tNil))) σ H (logsF ms n) := fun H1 e1 Q q =>
  h H1 e1 _ fun H2 e2 => hn H2 (e1.trans e2) _ fun H3 e3 => ⟨p, xs, ms, n, rfl, ((e1.trans e2).trans e3) _ _ hp, hd.ex ((e1.trans e2).trans e3), ok, h6, n6, fun L as H4 hL has e4 N => q L as H4 (fresh_back (e2.trans e3) hL) (fun a ha => fresh_back (e2.trans e3) (has a ha)) ((e2.trans e3).trans e4) N⟩
theorem ev_neLg {L : Addr} {ls : List (List Jm)} (ha : Ev ta σ H (.ref L)) (hL : LgsAt H L ls) (hb : EvLg tb σ H ls) (ok : ∀ l ∈ ls, ∀ m ∈ l, JmOk m) : Ev (tOp (rNeD K) ta tb) σ H (.bl false) := fun H1 e Q q =>
  ha H1 e _ fun H2 e2 => hb H2 (e.trans e2) _ fun L2 as H3 _ _ e3 N => rv_neSm (fun H4 e4 => dp_lgs (hL.ex (((e.trans e2).trans e3).trans e4))) (fun H4 e4 => dp_lgs (N.lgs.ex e4)) ((sk_logs ok).sh (by decide)) H3 (Ex.refl H3) Q fun H4 e4 => q H4 ((e2.trans e3).trans e4)
theorem ev_joinN {E : L2.St → XK} {L : Addr} {ls : List (List Jm)} (h : Ev te σ H (.ref L)) (hL : LgsAt H L ls) (J : JNone ls) : Ev (tCallS spLjn E (tCons te tNil)) σ H .non := fun H1 e1 Q q =>
  h H1 e1 _ fun H2 e2 => by
    obtain ⟨ok, j⟩ := J
    refine ⟨L, ls, rfl, hL.ex (e1.trans e2), ok, fun _ H3 e3 => q H3 (e2.trans e3), fun a b c => ?_⟩
    rcases j with j | ⟨ms, ts', g1, g2, g3⟩
    · exact absurd ⟨a, b, c⟩ j
    · exact ⟨ms, ts', g1, g2, fun _ H3 e3 => q H3 (e2.trans e3), fun z => by rw [g3] at z; cases z⟩
theorem eld_join {E : L2.St → XK} {L : Addr} {ls : List (List Jm)} {ms : List Jm} (h : Ev te σ H (.ref L)) (hL : LgsAt H L ls) (J : JIs ls ms) : EvLD (tCallS spLjn E (tCons te tNil)) σ H (ms.map dJm) := fun H1 e1 Q q =>
  h H1 e1 _ fun H2 e2 => by
    obtain ⟨ok, a, b, c, ts', g1, g2, g3⟩ := J
    exact ⟨L, ls, rfl, hL.ex (e1.trans e2), ok, fun z => absurd ⟨a, b, c⟩ z, fun _ _ _ => ⟨ms, ts', g1, g2, fun z => Bool.noConfusion (g3.symm.trans z), fun _ p xs H3 hp e3 h3 hd => q p xs H3 (fresh_back e2 hp) (e2.trans e3) h3 hd⟩⟩
/-- empty logs -/
theorem q_new {tz : TS} {D : Ends} {tn : TA} {i j : Nat} {vs : List Nat} {n : Nat} (hn : EvA tn σ H [.int (n : Int)]) (n6 : n ≤ 6) (hw : ∀ x, wipe ((wipe σ vs).set j (some x)) vs = wipe σ vs)
    (k : ∀ L as H', H L = none → (∀ a ∈ as, H a = none) → Ex H H' → LgN H' L as (List.replicate n []) → tz D (σ.set i (some (.ref L))) H') : tSeq (tAsg (tLc (iRng1 tn) (gName j) tYes (tLst tNil) vs) (gName i)) tz D σ H := by
  refine asg_ ?_
  refine lc_rng (j := j) (vs := vs) (te := tLst tNil) (n := n) hn (by omega) (fun D i H' => H D = none ∧ Ex H H' ∧ ∃ as : List Addr, H' D = some (.lst (as.map V.ref)) ∧ as.length = i ∧ as.Nodup ∧ D ∉ as ∧ (∀ a ∈ as, H a = none) ∧ LsA LgAt H' (as.map V.ref) (List.replicate i []))
    (fun D H1 e1 hD => ⟨fresh_back e1 hD, e1.trans (Ex.new hD), [], upd_same, rfl, List.nodup_nil, (by simp), (fun a h => by cases h), trivial⟩) hw (fun D i H' hi ⟨hDn, he, as, hd, hlen, hnd, hne, hfr, hls⟩ => ?_) (fun Lg H1 ⟨hDn, he, as, hd, hlen, hnd, hne, hfr, hls⟩ => k Lg as H1 hDn hfr he ⟨hd, hnd, hne, hls⟩)
  refine ⟨by show 0 ≤ sizeLine; decide, fun p hp => ?_⟩
  have npD : p ≠ D := fun z => by rw [z, hd] at hp; cases hp
  have npa : p ∉ as := fun z => by
    obtain ⟨j, hj⟩ := List.mem_iff_getElem?.mp z
    obtain ⟨v, hv, a, xs', e, h1, _⟩ := hls.get (i := j) (v := .ref p) (by rw [List.getElem?_map, hj]; rfl)
    injection e with e
    subst e
    rw [hp] at h1
    cases h1
  have pn : H p = none := fresh_back he hp
  refine ⟨as.map V.ref, by rw [upd_ne (fun z => npD z.symm)]; exact hd, by rw [List.length_map, sizeLine_eq]; omega, hDn, Ex.mut (he.trans (Ex.new hp)) hDn, as ++ [p], by rw [upd_same, List.map_append]; rfl, by rw [List.length_append, hlen]; rfl, ?_, ?_, ?_, ?_⟩
  · exact List.nodup_append.mpr ⟨hnd, by simp, fun a ha b hb => by rw [List.mem_singleton.mp hb]; exact fun z => npa (z ▸ ha)⟩
  · exact fun z => (List.mem_append.mp z).elim hne fun z => npD (List.mem_singleton.mp z).symm
  · exact fun a ha => (List.mem_append.mp ha).elim (hfr a) fun z => by rw [List.mem_singleton.mp z]; exact pn
  · rw [List.map_append, List.replicate_succ']
    have tk : TK H' (upd (upd H' p (.lst [])) D (.lst (as.map V.ref ++ [.ref p]))) := (TK.of (Ex.new hp)).trans (tk_lst ((Ex.new hp) _ _ hd))
    refine LsA.snoc (lsa_mem hls fun v hv l ⟨a, xs, e2, g1, g2⟩ => ?_) ⟨p, [], rfl, by rw [upd_ne npD, upd_same], DaL.nil⟩
    subst e2
    obtain ⟨b, hb, e3⟩ := List.mem_map.mp hv
    injection e3 with e3
    subst e3
    have nb : b ≠ D := fun z => hne (z ▸ hb)
    exact ⟨b, xs, rfl, by rw [upd_ne nb]; exact (Ex.new hp) _ _ g1, g2.keep tk⟩
end
/-! the links' machines -/
theorem IsLk.rng {m : Jm} {a b t n : Nat} (h : IsLk m a b t) (ha : a < n) (hb : b < n) : JmOk m ∧ ∀ p ∈ m.2, 0 ≤ p.1 ∧ p.1 < (n : Int) := by
  refine ⟨h.1, fun p hp => ?_⟩
  rcases h.parts hp with ⟨e, _⟩ | ⟨e, _⟩ <;> rw [e] <;> omega
theorem links_rng {n : Nat} {ms : List Int} (h : MachOk n ms) (row : List Int) (ring : Bool) : ∀ m ∈ linksL ms row ring, JmOk m ∧ ∀ p ∈ m.2, 0 ≤ p.1 ∧ p.1 < (n : Int) := fun m hm => by
  rw [links_eq h row ring] at hm
  obtain ⟨k, hk, rfl⟩ := List.mem_map.mp hm
  obtain ⟨h1, h2, h3⟩ := lk_is h row ring k (List.mem_range.mp hk)
  obtain ⟨_, _, lt, _⟩ := mach_facts h
  exact h1.rng (lt _ h2) (lt _ h3)
theorem links_len {n : Nat} {ms : List Int} (h : MachOk n ms) (row : List Int) (ring : Bool) : (linksL ms row ring).length ≤ 6 := by
  rw [links_eq h row ring, List.length_map, List.length_range]
  unfold nL
  have := h.hi
  omega
end Fs

set_option Elab.async false
set_option linter.all false
set_option maxRecDepth 100000
set_option maxHeartbeats 8000000
/-! the law: rings of logs -/
namespace Fs
open PySem L2 Evl FsE FsC FsR FsK FsV FsD FsG
theorem q_setN {σ : L2.St} {H : Hp} {tb : TE} {tz : TS} {D : Ends} {i : Nat} {l : Addr} {xs : List V} {j : Nat} (hv : σ[i]? = some (some (.ref l))) (hl : H l = some (.lst xs)) (hb : Ev tb σ H (.int (j : Int))) (hj : j < xs.length)
    (k : ∀ p H1, H p = none → Ex H H1 → H1 p = some (.lst []) → tz D σ (upd H1 l (.lst (xs.set j (.ref p))))) : tSeq (tAsg (tLst tNil) (gSub (tVar i) tb rSetL)) tz D σ H := by
  have h0 : EvL (tLst tNil) σ H [] := el_lst ea_nil (by show 0 ≤ 100000; decide)
  show tLst tNil σ H fun x H1 => gSub (tVar i) tb rSetL x σ H1 (tz D)
  refine h0 H (Ex.refl H) _ fun p H1 hp e1 h1 => ?_
  refine ev_var (i := i) hv H1 e1 _ fun H2 e2 => ?_
  refine hb H2 (e1.trans e2) _ fun H3 e3 => ?_
  exact ⟨l, xs, (j : Int), j, rfl, rfl, ((e1.trans e2).trans e3) _ _ hl, ixN_nat hj, k p H3 hp ((e1.trans e2).trans e3) ((e2.trans e3) _ _ h1)⟩
section
variable {P : Program} {w : World} {K : PySem.W.Frag} {mg : Str → Option Value} {base : Heap} {CJ C : Addr}
def spLaw (K : PySem.W.Frag) : Sp := fun vs H Q _ => ∃ (a : Addr) (ns : List Int), vs = [.ref a] ∧ SqL K H a (ns.map V.int) ∧ RetV (.bl true) H Q
abbrev nsLaw : List Str := ["_law_script", "_law_row_here", "_law_machines_here", "_law_many", "_law_ring", "_law_chain", "_law_logs_here", "_law_one", "_law_two", "_law_k"]
theorem scLaw : FnScope nsLaw ["_law_script"] (defScope (topS 29)) := ⟨rfl, rfl, rfl, by decide +kernel, rfl, by decide +kernel, by decide +kernel⟩
theorem ok_law {f : Addr} {fd : FuncData} (F : Fun K "law" "law" (topS 29) f fd) (L : LawT K mg) (GC : CalX P w K mg base CX0 1 "_law_cell_at" (spCellAt K)) (GR : CalX P w K mg base CX0 2 "_law_row" spRow) (GM : CalX P w K mg base CX0 1 "_law_machines" spMas) (GT : CalX P w K mg base CX0 1 "_law_meeting" spMet) (GK : CalX P w K mg base CX0 2 "_law_links" spLks) (GG : CalX P w K mg base CX0 1 "_law_logs" spLgs) (GJ : CalX P w K mg base CX0 6 "_law_join" spLjn) :
    FnOk P w K mg base CX0 7 f fd ["_law_script"] (spLaw K) := by
  refine F.ok (k := 6) scLaw (fun vs H Q E h => ?_) (fun cdv A outer s H vs Q E hr h => ?_)
  · obtain ⟨a, ns, rfl, _⟩ := h
    rfl
  · obtain ⟨a, ns, rfl, hS, q⟩ := h
    refine ⟨_, pss_cons (ps_set (i := 1) scLaw.nd rfl (Or.inl rfl) (pe_cx (E := fun _ => E0) GR hr (by omega) (by rfl) at0 (pa_cons (pe_cx (E := fun _ => E0) GC hr (by omega) (by rfl) at0 (pa_cons (pv 0) (pa_cons pe_int pa_nil))) (pa_cons pe_int pa_nil))))
      (pss_cons (ps_set (i := 2) scLaw.nd rfl (Or.inl rfl) (pe_cx (E := fun _ => E0) GM hr (by omega) (by rfl) at0 (pa_cons (pv 1) pa_nil)))
      (pss_cons (ps_set (i := 3) scLaw.nd rfl (Or.inl rfl) (pe_callB call_len_seq (by rfl) L.len PySem.boot_len (pa_cons (pv 2) pa_nil)))
      (pss_cons (ps_set (i := 4) scLaw.nd rfl (Or.inl rfl) (pe_cx (E := fun _ => E0) GG hr (by omega) (by rfl) at0 (pa_cons (pe_cx (E := fun _ => E0) GK hr (by omega) (by rfl) at0 (pa_cons (pv 2) (pa_cons (pv 1) (pa_cons pe_bl pa_nil)))) (pa_cons (pv 3) pa_nil))))
      (pss_cons (ps_if (PW.pt (pw_or (pt_cmpR op_notN (pe_cx (E := fun _ => E0) GJ hr (by omega) (by rfl) at0 (pa_cons (pv 4) pa_nil)) pe_non (nomark _))
          (pw_or1 (pt_cmpR (op_neD hr.units) (pv 4) (pe_cx (E := fun _ => E0) GG hr (by omega) (by rfl) at0 (pa_cons (pe_cx (E := fun _ => E0) GK hr (by omega) (by rfl) at0 (pa_cons (pv 2) (pa_cons (pv 1) (pa_cons pe_bl pa_nil)))) (pa_cons (pv 3) pa_nil))) (nomark _))))) (pss_one (ps_ret pe_bl)) pss_nil)
      (pss_cons (ps_set (i := 5) scLaw.nd rfl (Or.inl rfl) (pe_cx (E := fun _ => E0) GK hr (by omega) (by rfl) at0 (pa_cons (pv 2) (pa_cons (pv 1) (pa_cons pe_bl pa_nil)))))
      (pss_cons (ps_set (i := 6) scLaw.nd rfl (Or.inl rfl) (pe_cx (E := fun _ => E0) GG hr (by omega) (by rfl) at0 (pa_cons (pv 5) (pa_cons (pv 3) pa_nil))))
      (pss_cons (ps_if (pt_cmpR (op_neD hr.units) (pe_cx (E := fun _ => E0) GJ hr (by omega) (by rfl) at0 (pa_cons (pv 6) pa_nil)) (pe_revL (pv 5)) (nomark _)) (pss_one (ps_ret pe_bl)) pss_nil)
      (pss_cons (ps_asg (pe_lst pa_nil) (pg_sub (pv 6) (pe_ix ix_list (pv 2) pe_int (fun _ _ => rfl)) set_list))
      (pss_cons (ps_if (pt_cmpR (op_neD hr.units) (pe_cx (E := fun _ => E0) GJ hr (by omega) (by rfl) at0 (pa_cons (pv 6) pa_nil)) (pe_revL (pv 5)) (nomark _)) (pss_one (ps_ret pe_bl)) pss_nil)
      (pss_cons (ps_setLc (i := 6) (own := [("_law_k", 9)]) (g := gName 9) (tt := tYes) (te := tLst tNil) rfl scLaw.nd rfl rfl (sw_true rfl rfl rfl (by decide +kernel)) (pi_range1 (by rfl) L.range (pa_cons (pv 3) pa_nil)) (blkOk_by (own := [("_law_k", 9)]) (N := nsLaw) (sc := defScope (topS 29)) (by decide +kernel))
        (fun _ _ _ _ _ => pg_name (i := 9) scLaw.nd rfl (.inl rfl)) (fun _ _ _ _ _ => pts_nil) (fun _ _ _ _ _ => pe_lst pa_nil))
      (pss_cons (ps_set (i := 7) scLaw.nd rfl (Or.inl rfl) (pe_cx (E := fun _ => E0) GT hr (by omega) (by rfl) at0 (pa_cons (pe_tup (pa_cons (pe_ix ix_list (pv 2) pe_int (fun _ _ => rfl)) (pa_cons pe_int pa_nil))) (pa_cons (pe_tup (pa_cons (pe_ix ix_list (pv 2) pe_int (fun _ _ => rfl)) (pa_cons pe_int pa_nil))) (pa_cons pe_int (pa_cons (pe_ix ix_list (pv 1) pe_int (fun _ _ => rfl)) pa_nil))))))
      (pss_cons (ps_set (i := 8) scLaw.nd rfl (Or.inl rfl) (pe_cx (E := fun _ => E0) GT hr (by omega) (by rfl) at0 (pa_cons (pe_tup (pa_cons (pe_ix ix_list (pv 2) pe_int (fun _ _ => rfl)) (pa_cons pe_int pa_nil))) (pa_cons (pe_tup (pa_cons (pe_ix ix_list (pv 2) pe_int (fun _ _ => rfl)) (pa_cons pe_int pa_nil))) (pa_cons pe_int (pa_cons (pe_ix ix_list (pv 1) pe_int (fun _ _ => rfl)) pa_nil))))))
      (pss_cons (ps_expr (pe_bm PySem.F.plainAttrs_list PySem.F.slot_list_append PySem.F.type_list_append mt_append (pe_ix ix_list (pv 6) (pe_ix ix_list (pv 2) pe_int (fun _ _ => rfl)) (fun _ _ => rfl)) (pa_cons (pv 7) pa_nil)))
      (pss_cons (ps_if (pt_cmpR (op_neD hr.units) (pe_cx (E := fun _ => E0) GJ hr (by omega) (by rfl) at0 (pa_cons (pv 6) pa_nil)) (pe_lst (pa_cons (pv 7) pa_nil)) (nomark _)) (pss_one (ps_ret pe_bl)) pss_nil)
      (pss_cons (ps_expr (pe_bm PySem.F.plainAttrs_list PySem.F.slot_list_append PySem.F.type_list_append mt_append (pe_ix ix_list (pv 6) (pe_ix ix_list (pv 2) pe_int (fun _ _ => rfl)) (fun _ _ => rfl)) (pa_cons (pv 8) pa_nil)))
      (pss_one (ps_ret (pe_cmpR op_isN (pe_cx (E := fun _ => E0) GJ hr (by omega) (by rfl) at0 (pa_cons (pv 6) pa_nil)) pe_non (nomark _))))))))))))))))))), ?_⟩
    refine asg_ ?_
    refine ⟨_, rfl, a, ns, 0, rfl, hS, fun c H1 e1 => ⟨c, 16, rfl, by decide, fun row hrow hok rl H2 hrl e2 h2 => ?_⟩⟩
    refine asg_ ?_
    refine ⟨_, rfl, rl, row, rfl, h2, hrow, hok, fun n ms hM ml H3 hml e3 h3 => ?_⟩
    have hl2 := e3 _ _ h2
    obtain ⟨lm, hp, lt, inj, surj⟩ := mach_facts hM
    have n3 := hM.lo
    have n6 := hM.hi
    have x3 := (e1.trans e2).trans e3
    refine q_asg (i := 3) (v := .int (n : Int)) (σ := [some (.ref a), some (.ref rl), some (.ref ml), none, none, none, none, none, none, none]) (ev_is (ev_cb (ea_cons (ev_var (i := 2) rfl) ea_nil) (fun H2 e2 Q' q' => ⟨ml, _, rfl, .inl (sq_of (e2 _ _ h3)), q' H2 (Ex.refl H2)⟩)) (by rw [List.length_map, lm])) (fun H4 e4 => ?_)
    have lks : ∀ {σ : L2.St} {H9 : Hp} {b : Bool} {E : L2.St → XK}, Ex H3 H9 → σ[1]? = some (some (.ref rl)) → σ[2]? = some (some (.ref ml)) → EvLD (tCallS spLks E (tCons (tVar 2) (tCons (tVar 1) (tCons (tC (.bl b)) tNil)))) σ H9 ((linksL ms row b).map dJm) := fun e9 s1 s2 =>
      eld_links (ev_var (i := 2) s2) (ev_var (i := 1) s1) ev_c (e9 _ _ h3) (by omega) (by omega) (e9 _ _ hl2) hrow
    have okR := links_rng hM row true
    have okC := links_rng hM row false
    have okLR : ∀ l ∈ logsF (linksL ms row true) n, ∀ m ∈ l, JmOk m := (ring_none hM row).1.ok
    refine asg_ ?_
    refine elg_logs (lks e4 rfl rfl) (ev_var (i := 3) rfl) okR (links_len hM row true) n6 H4 (Ex.refl H4) _ fun Rg as H5 hRg has e5 NR => ?_
    have x5 := e4.trans e5
    refine q_when (b := false || false) (σ := [some (.ref a), some (.ref rl), some (.ref ml), some (.int (n : Int)), some (.ref Rg), none, none, none, none, none]) (et_or (a := false) (b := false) (et_is (et_test (ev_op (x := .non) (y := .non) (ev_joinN (ev_var (i := 4) rfl) NR.lgs (ring_none hM row)) ev_c rv_notN)) rfl)
      (fun _ => et_test (ev_neLg (ev_var (i := 4) rfl) NR.lgs (elg_logs (lks x5 rfl rfl) (ev_var (i := 3) rfl) okR (links_len hM row true) n6) okLR))) (fun hb => nomatch hb) (fun _ H6 e6 => ?_)
    refine asg_ ?_
    have x6 := x5.trans e6
    refine lks x6 rfl rfl H6 (Ex.refl H6) _ fun ch xs H7 hch e7 h7 hd7 => ?_
    have x7 := x6.trans e7
    refine asg_ ?_
    refine elg_logsV (ev_var (i := 5) rfl) h7 hd7 (ev_var (i := 3) rfl) okC (links_len hM row false) n6 H7 (Ex.refl H7) _ fun Lg as2 H8 hLg has2 e8 N8 => ?_
    have shC : SeqAt.shaped (.list ((linksL ms row false).reverse.map dJm)) = true := (sk_log fun m hm => (okC m (List.mem_reverse.mp hm)).1).sh (by decide)
    have rev : ∀ {H9 : Hp} {σ : L2.St}, Ex H7 H9 → σ[5]? = some (some (.ref ch)) → EvLD (tRevL K (tVar 5)) σ H9 ((linksL ms row false).reverse.map dJm) := fun e9 s5 => eld_is (eld_rev (ev_var (i := 5) s5) (e9 _ _ h7) (hd7.ex e9)) (List.map_reverse ..).symm
    refine q_when (b := false) (σ := [some (.ref a), some (.ref rl), some (.ref ml), some (.int (n : Int)), some (.ref Rg), some (.ref ch), some (.ref Lg), none, none, none]) (et_test (ev_neLD (eld_join (ev_var (i := 6) rfl) N8.lgs (chain_is hM row)) (rev e8 rfl) shC)) (fun hb => nomatch hb) (fun _ H9 e9 => ?_)
    have N9 := N8.ex e9
    have las : as2.length = n := by rw [N9.len, len_logsF]
    have m0 : ∀ {i : Nat}, i < n → (ms.map V.int)[i]? = some (.int ((posM ms i : Nat) : Int)) := fun {i} hi => by
      rw [List.getElem?_map, List.getElem?_eq_getElem (by omega)]
      have := hp i hi
      rw [List.getD_eq_getElem?_getD, List.getElem?_eq_getElem (by omega)] at this
      exact congrArg (fun x => some (V.int x)) this
    have evM : ∀ {σ : L2.St} {Hz : Hp} {i : Nat}, Ex H3 Hz → i < n → σ[2]? = some (some (.ref ml)) → Ev (tOp (rIxL K) (tVar 2) (tC (.int (i : Int)))) σ Hz (.int ((posM ms i : Nat) : Int)) := fun ez hi s2 =>
      ev_op (x := .ref ml) (ev_var (i := 2) s2) ev_c (rv_ixL (K := K) (sq_of (ez _ _ h3)) (atI_nat (m0 hi)))
    have x9 := x7.trans (e8.trans e9)
    -- the log of the first machine is emptied
    refine q_setN (i := 6) (l := Lg) (xs := as2.map V.ref) (j := posM ms 0) (σ := [some (.ref a), some (.ref rl), some (.ref ml), some (.int (n : Int)), some (.ref Rg), some (.ref ch), some (.ref Lg), none, none, none]) rfl N9.at_ (evM (i := 0) x9 (by omega) rfl) (by rw [List.length_map, las]; exact lt 0 (by omega)) (fun p0 H11 hp0 e11 h11 => ?_)
    have G12 := N9.lose hp0 e11 h11 (posM ms 0)
    generalize hH12 : upd H11 Lg (.lst ((as2.map V.ref).set (posM ms 0) (.ref p0))) = H12 at G12
    have e7_12 : Ex H7 H12 := hH12 ▸ Ex.mut (e8.trans (e9.trans e11)) hLg
    have x12 := x7.trans e7_12
    refine q_when (b := false) (σ := [some (.ref a), some (.ref rl), some (.ref ml), some (.int (n : Int)), some (.ref Rg), some (.ref ch), some (.ref Lg), none, none, none]) (et_test (ev_neLD (eld_join (ev_var (i := 6) rfl) G12 (chain_gone hM row)) (rev e7_12 rfl) shC)) (fun hb => nomatch hb) (fun _ H13 e13 => ?_)
    have x13 := x12.trans e13
    -- one and two
    refine q_new (i := 6) (j := 9) (vs := [9]) (σ := [some (.ref a), some (.ref rl), some (.ref ml), some (.int (n : Int)), some (.ref Rg), some (.ref ch), some (.ref Lg), none, none, none]) (ea_cons (ev_var (i := 3) rfl) ea_nil) n6 (fun _ => rfl) (fun Lh bs H14 hL2 hbs e14 N14 => ?_)
    have x14 := x13.trans e14
    have evR : ∀ {σ : L2.St} {Hz : Hp} {i : Nat}, Ex H3 Hz → i < 16 → σ[1]? = some (some (.ref rl)) → Ev (tOp (rIxL K) (tVar 1) (tC (.int (i : Int)))) σ Hz (.int (row.getD i 0)) := fun ez hi s1 =>
      ev_op (x := .ref rl) (ev_var (i := 1) s1) ev_c (rv_ixL (K := K) (sq_of (ez _ _ hl2)) (atI_nat (by rw [List.getElem?_map, List.getD_eq_getElem?_getD, List.getElem?_eq_getElem (by omega)]; rfl)))
    have evD : ∀ {i : Nat}, i < n → ms.getD i 0 = ((posM ms i : Nat) : Int) := fun hi => hp _ hi
    have seat : ∀ {σ : L2.St} {Hz : Hp} {i : Nat}, Ex H3 Hz → i < n → σ[2]? = some (some (.ref ml)) → EvS (tTup (tCons (tOp (rIxL K) (tVar 2) (tC (.int (i : Int)))) (tCons (tC (.int 0)) tNil))) σ Hz (fun v H' => DaAt H' v (.tuple [.int (ms.getD i 0), .int 0])) := fun ez hi s2 => by
      rw [evD hi]
      exact es_tu (etu_2 (es_intJ (evM ez hi s2)) (es_intJ ev_c))
    refine asg_ ?_
    refine es_met (a := ms.getD 0 0) (ta := 0) (b := ms.getD 1 0) (tb := 0) (num := 0) (d := row.getD 14 0) (seat (i := 0) x14 (by omega) rfl) (seat (i := 1) x14 (by omega) rfl) ev_c (evR (i := 14) x14 (by omega) rfl) H14 (Ex.refl H14) _ fun v1 H15 e15 d15 => ?_
    have x15 := x14.trans e15
    refine asg_ ?_
    refine es_met (a := ms.getD 2 0) (ta := 0) (b := ms.getD 1 0) (tb := 0) (num := 1) (d := row.getD 15 0) (seat (i := 2) x15 (by omega) rfl) (seat (i := 1) x15 (by omega) rfl) ev_c (evR (i := 15) x15 (by omega) rfl) H15 (Ex.refl H15) _ fun v2 H16 e16 d16 => ?_
    have x16 := x15.trans e16
    have N16 := N14.ex (e15.trans e16)
    have lbs : bs.length = n := by rw [N16.len, List.length_replicate]
    obtain ⟨w0, ys0, ha0, hy0, hd0⟩ := lgs_get N16.ls_ (i := posM ms 0) (l := []) (by rw [List.getElem?_replicate, if_pos (lt 0 (by omega))])
    rw [List.getElem?_map] at ha0
    obtain ⟨b0, hb0, eb⟩ := Option.map_eq_some_iff.mp ha0
    injection eb with eb
    subst eb
    have y0 : ys0.length = 0 := hd0.length
    refine q_appJ (l := b0) (xs := ys0) (σ := [some (.ref a), some (.ref rl), some (.ref ml), some (.int (n : Int)), some (.ref Rg), some (.ref ch), some (.ref Lh), some v1, some v2, none]) (Pv := fun v _ => v = v1) hy0 (ev_op (x := .ref Lh) (ev_var (i := 6) rfl) (evM (i := 0) x16 (by omega) rfl) (rv_ixL (K := K) (sq_of N16.at_) (atI_nat (by rw [List.getElem?_map, hb0]; rfl)))) (fun H6 e6 Q6 q6 => ev_var (i := 7) rfl H6 e6 _ fun H7 e7 => q6 _ H7 e7 rfl) (by omega) (fun v H17 e17 hv => ?_)
    subst hv
    have N18 := (N16.ex e17).push hb0 (e17 _ _ hy0) (hd0.ex e17) (d15.ex (e16.trans e17))
    have tk18 : TK H17 (upd H17 b0 (.lst (ys0 ++ [v]))) := tk_lst (e17 _ _ hy0)
    have d18a := (d15.ex (e16.trans e17)).keep tk18
    have d18b := (d16.ex e17).keep tk18
    have f0 : H13 b0 = none := hbs b0 (List.mem_of_getElem? hb0)
    generalize hH18 : upd H17 b0 (.lst (ys0 ++ [v])) = H18 at N18 d18a d18b
    have e13_18 : Ex H13 H18 := hH18 ▸ Ex.mut (e14.trans (e15.trans (e16.trans e17))) f0
    have x18 := x13.trans e13_18
    have N18 : LgN H18 Lh bs (oneL n ms row) := N18
    have sh1 : SeqAt.shaped (.list [dJm (oneJ ms row)]) = true := (sk_log (l := [oneJ ms row]) fun m hm => by
      rw [List.mem_singleton.mp hm]
      exact (one_lk hM row).1).sh (by decide)
    refine q_when (b := false) (σ := [some (.ref a), some (.ref rl), some (.ref ml), some (.int (n : Int)), some (.ref Rg), some (.ref ch), some (.ref Lh), some v, some v2, none]) (et_test (ev_neLD (eld_join (ev_var (i := 6) rfl) N18.lgs (one_is hM row)) (eld_1 (ev_var (i := 7) rfl) d18a) sh1)) (fun hb => nomatch hb) (fun _ H19 e19 => ?_)
    have N19 := N18.ex e19
    have x19 := x18.trans e19
    have ne20 : posM ms 0 ≠ posM ms 2 := fun z => by cases inj _ _ (by omega) (by omega) z
    obtain ⟨w2, ys2, ha2, hy2, hd2⟩ := lgs_get N19.ls_ (i := posM ms 2) (l := []) (by unfold oneL; rw [List.getElem?_set_ne ne20, List.getElem?_replicate, if_pos (lt 2 (by omega))])
    rw [List.getElem?_map] at ha2
    obtain ⟨b2, hb2, eb⟩ := Option.map_eq_some_iff.mp ha2
    injection eb with eb
    subst eb
    have y2 : ys2.length = 0 := hd2.length
    refine q_appJ (l := b2) (xs := ys2) (σ := [some (.ref a), some (.ref rl), some (.ref ml), some (.int (n : Int)), some (.ref Rg), some (.ref ch), some (.ref Lh), some v, some v2, none]) (Pv := fun u _ => u = v2) hy2 (ev_op (x := .ref Lh) (ev_var (i := 6) rfl) (evM (i := 2) x19 (by omega) rfl) (rv_ixL (K := K) (sq_of N19.at_) (atI_nat (by rw [List.getElem?_map, hb2]; rfl)))) (fun H6 e6 Q6 q6 => ev_var (i := 8) rfl H6 e6 _ fun H7 e7 => q6 _ H7 e7 rfl) (by omega) (fun u H20 e20 hu => ?_)
    subst hu
    have N21 := (N19.ex e20).push hb2 (e20 _ _ hy2) (hd2.ex e20) (d18b.ex (e19.trans e20))
    have f2 : H13 b2 = none := hbs b2 (List.mem_of_getElem? hb2)
    generalize hH21 : upd H20 b2 (.lst (ys2 ++ [u])) = H21 at N21
    have e13_21 : Ex H13 H21 := hH21 ▸ Ex.mut (e13_18.trans (e19.trans e20)) f2
    have N21 : LgN H21 Lh bs (twoL n ms row) := N21
    refine s_ret (v := .bl true) (ev_is (ev_op (x := .non) (y := .non) (ev_joinN (ev_var (i := 6) rfl) N21.lgs (two_none hM row)) ev_c rv_isN) (by rfl)) (fun H22 e22 => q H22 (x3.trans ((x13.trans e13_21).trans e22)))
end
end Fs

set_option Elab.async false
set_option linter.all false
set_option maxRecDepth 100000
set_option maxHeartbeats 8000000
namespace Fs
open PySem PySem.Spec PyProof.Rows L2 Evl FsE FsC FsR FsK FsV FsD FsG
theorem exm_own {K : PySem.W.Frag} {S : Addr} (h1 : PySem.W.subIn K (.ref S) (.type "BaseException") = some true) (h2 : PySem.W.isClsIn K S = true) (h3 : PySem.W.typeIn K (.ref S) = some (.type "type")) (h4 : PySem.W.subIn K (.ref S) (.ref S) = some true) : PySem.W.exmOne K (.ref S) (.ref S) = some true := by
  unfold PySem.W.exmOne PySem.W.kitCls
  have h2' : (PySem.W.clsIn K S).isSome = true := h2
  simp only [h1, h2', h3, h4, beq_self_eq_true, Bool.and_self, if_true]
theorem all_mk {P : Program} {w : World} {K : PySem.W.Frag} {h : Heap} {mg : Str → Option Value} {fa : Addr} (X : K.In h) (G : h.Ns mainGlobals mg) (hfa : mg "law" = some (.ref fa))
    {fisint : Addr} {odisint anisint : Option Addr} {slisint : Array (Option Value)} {ocisint kVisint dcisint pmisint cdisint ctisint : Value}
    {findex : Addr} {odindex anindex : Option Addr} {slindex : Array (Option Value)} {ocindex kVindex dcindex pmindex cdindex ctindex : Value}
    {fmach : Addr} {odmach anmach : Option Addr} {slmach : Array (Option Value)} {ocmach kVmach dcmach pmmach cdmach ctmach : Value}
    {ffit : Addr} {odfit anfit : Option Addr} {slfit : Array (Option Value)} {ocfit kVfit dcfit pmfit cdfit ctfit : Value}
    {fent : Addr} {odent anent : Option Addr} {slent : Array (Option Value)} {ocent kVent dcent pment cdent ctent : Value}
    {ftur : Addr} {odtur antur : Option Addr} {sltur : Array (Option Value)} {octur kVtur dctur pmtur cdtur cttur : Value}
    {ftak : Addr} {odtak antak : Option Addr} {sltak : Array (Option Value)} {octak kVtak dctak pmtak cdtak cttak : Value}
    {frdy : Addr} {odrdy anrdy : Option Addr} {slrdy : Array (Option Value)} {ocrdy kVrdy dcrdy pmrdy cdrdy ctrdy : Value}
    {fjoi : Addr} {odjoi anjoi : Option Addr} {sljoi : Array (Option Value)} {ocjoi kVjoi dcjoi pmjoi cdjoi ctjoi : Value}
    {fcellat : Addr} {odcellat ancellat : Option Addr} {slcellat : Array (Option Value)} {occellat kVcellat dccellat pmcellat cdcellat ctcellat : Value}
    {fmixed : Addr} {odmixed anmixed : Option Addr} {slmixed : Array (Option Value)} {ocmixed kVmixed dcmixed pmmixed cdmixed ctmixed : Value}
    {frow : Addr} {odrow anrow : Option Addr} {slrow : Array (Option Value)} {ocrow kVrow dcrow pmrow cdrow ctrow : Value}
    {fmas : Addr} {odmas anmas : Option Addr} {slmas : Array (Option Value)} {ocmas kVmas dcmas pmmas cdmas ctmas : Value}
    {fmet : Addr} {odmet anmet : Option Addr} {slmet : Array (Option Value)} {ocmet kVmet dcmet pmmet cdmet ctmet : Value}
    {flks : Addr} {odlks anlks : Option Addr} {sllks : Array (Option Value)} {oclks kVlks dclks pmlks cdlks ctlks : Value}
    {flgs : Addr} {odlgs anlgs : Option Addr} {sllgs : Array (Option Value)} {oclgs kVlgs dclgs pmlgs cdlgs ctlgs : Value}
    {fljn : Addr} {odljn anljn : Option Addr} {slljn : Array (Option Value)} {ocljn kVljn dcljn pmljn cdljn ctljn : Value}
    {flaw : Addr} {odlaw anlaw : Option Addr} {sllaw : Array (Option Value)} {oclaw kVlaw dclaw pmlaw cdlaw ctlaw : Value}
    {C : Addr}
    {finit : Addr} {odinit aninit : Option Addr} {slinit : Array (Option Value)} {ocinit kVinit dcinit pminit cdinit ctinit : Value}
    {flen : Addr} {odlen anlen : Option Addr} {sllen : Array (Option Value)} {oclen kVlen dclen pmlen cdlen ctlen : Value}
    {fget : Addr} {odget anget : Option Addr} {slget : Array (Option Value)} {ocget kVget dcget pmget cdget ctget : Value}
    {CJ : Addr}
    (aisint : PySem.W.nsIn K mainGlobals "is_int" = some (some (.ref fisint)))
    (lisint : K.lookup fisint = some ⟨ocisint, odisint, .func (PySem.W.fnOf "is_int" "is_int" (defArgs (topS 2)) (defBody (topS 2)) (defScope (topS 2)) .none kVisint dcisint pmisint anisint cdisint ctisint), slisint⟩)
    (cisint : PySem.W.codeIn K cdisint "is_int" = true)
    (kisint : PySem.W.keepIn K (.ref fisint) = true)
    (aindex : PySem.W.nsIn K mainGlobals "is_index" = some (some (.ref findex)))
    (lindex : K.lookup findex = some ⟨ocindex, odindex, .func (PySem.W.fnOf "is_index" "is_index" (defArgs (topS 3)) (defBody (topS 3)) (defScope (topS 3)) .none kVindex dcindex pmindex anindex cdindex ctindex), slindex⟩)
    (cindex : PySem.W.codeIn K cdindex "is_index" = true)
    (kindex : PySem.W.keepIn K (.ref findex) = true)
    (amach : PySem.W.nsIn K mainGlobals "machines_in" = some (some (.ref fmach)))
    (lmach : K.lookup fmach = some ⟨ocmach, odmach, .func (PySem.W.fnOf "machines_in" "machines_in" (defArgs (topS 9)) (defBody (topS 9)) (defScope (topS 9)) .none kVmach dcmach pmmach anmach cdmach ctmach), slmach⟩)
    (cmach : PySem.W.codeIn K cdmach "machines_in" = true)
    (kmach : PySem.W.keepIn K (.ref fmach) = true)
    (afit : PySem.W.nsIn K mainGlobals "log_fits" = some (some (.ref ffit)))
    (lfit : K.lookup ffit = some ⟨ocfit, odfit, .func (PySem.W.fnOf "log_fits" "log_fits" (defArgs (topS 18)) (defBody (topS 18)) (defScope (topS 18)) .none kVfit dcfit pmfit anfit cdfit ctfit), slfit⟩)
    (cfit : PySem.W.codeIn K cdfit "log_fits" = true)
    (kfit : PySem.W.keepIn K (.ref ffit) = true)
    (aent : PySem.W.nsIn K mainGlobals "check_entries" = some (some (.ref fent)))
    (lent : K.lookup fent = some ⟨ocent, odent, .func (PySem.W.fnOf "check_entries" "check_entries" (defArgs (topS 15)) (defBody (topS 15)) (defScope (topS 15)) .none kVent dcent pment anent cdent ctent), slent⟩)
    (cent : PySem.W.codeIn K cdent "check_entries" = true)
    (kent : PySem.W.keepIn K (.ref fent) = true)
    (atur : PySem.W.nsIn K mainGlobals "check_turns" = some (some (.ref ftur)))
    (ltur : K.lookup ftur = some ⟨octur, odtur, .func (PySem.W.fnOf "check_turns" "check_turns" (defArgs (topS 16)) (defBody (topS 16)) (defScope (topS 16)) .none kVtur dctur pmtur antur cdtur cttur), sltur⟩)
    (ctur : PySem.W.codeIn K cdtur "check_turns" = true)
    (ktur : PySem.W.keepIn K (.ref ftur) = true)
    (atak : PySem.W.nsIn K mainGlobals "check_takers" = some (some (.ref ftak)))
    (ltak : K.lookup ftak = some ⟨octak, odtak, .func (PySem.W.fnOf "check_takers" "check_takers" (defArgs (topS 17)) (defBody (topS 17)) (defScope (topS 17)) .none kVtak dctak pmtak antak cdtak cttak), sltak⟩)
    (ctak : PySem.W.codeIn K cdtak "check_takers" = true)
    (ktak : PySem.W.keepIn K (.ref ftak) = true)
    (ardy : PySem.W.nsIn K mainGlobals "ready_meetings" = some (some (.ref frdy)))
    (lrdy : K.lookup frdy = some ⟨ocrdy, odrdy, .func (PySem.W.fnOf "ready_meetings" "ready_meetings" (defArgs (topS 19)) (defBody (topS 19)) (defScope (topS 19)) .none kVrdy dcrdy pmrdy anrdy cdrdy ctrdy), slrdy⟩)
    (crdy : PySem.W.codeIn K cdrdy "ready_meetings" = true)
    (krdy : PySem.W.keepIn K (.ref frdy) = true)
    (ajoi : PySem.W.nsIn K mainGlobals "joined" = some (some (.ref fjoi)))
    (ljoi : K.lookup fjoi = some ⟨ocjoi, odjoi, .func (PySem.W.fnOf "joined" "joined" (defArgs (topS 14)) (defBody (topS 14)) (defScope (topS 14)) .none kVjoi dcjoi pmjoi anjoi cdjoi ctjoi), sljoi⟩)
    (cjoi : PySem.W.codeIn K cdjoi "joined" = true)
    (kjoi : PySem.W.keepIn K (.ref fjoi) = true)
    (acellat : PySem.W.nsIn K mainGlobals "_law_cell_at" = some (some (.ref fcellat)))
    (lcellat : K.lookup fcellat = some ⟨occellat, odcellat, .func (PySem.W.fnOf "_law_cell_at" "_law_cell_at" (defArgs (topS 21)) (defBody (topS 21)) (defScope (topS 21)) .none kVcellat dccellat pmcellat ancellat cdcellat ctcellat), slcellat⟩)
    (ccellat : PySem.W.codeIn K cdcellat "_law_cell_at" = true)
    (kcellat : PySem.W.keepIn K (.ref fcellat) = true)
    (amixed : PySem.W.nsIn K mainGlobals "_law_mixed" = some (some (.ref fmixed)))
    (lmixed : K.lookup fmixed = some ⟨ocmixed, odmixed, .func (PySem.W.fnOf "_law_mixed" "_law_mixed" (defArgs (topS 22)) (defBody (topS 22)) (defScope (topS 22)) .none kVmixed dcmixed pmmixed anmixed cdmixed ctmixed), slmixed⟩)
    (cmixed : PySem.W.codeIn K cdmixed "_law_mixed" = true)
    (kmixed : PySem.W.keepIn K (.ref fmixed) = true)
    (arow : PySem.W.nsIn K mainGlobals "_law_row" = some (some (.ref frow)))
    (lrow : K.lookup frow = some ⟨ocrow, odrow, .func (PySem.W.fnOf "_law_row" "_law_row" (defArgs (topS 23)) (defBody (topS 23)) (defScope (topS 23)) .none kVrow dcrow pmrow anrow cdrow ctrow), slrow⟩)
    (crow : PySem.W.codeIn K cdrow "_law_row" = true)
    (krow : PySem.W.keepIn K (.ref frow) = true)
    (amas : PySem.W.nsIn K mainGlobals "_law_machines" = some (some (.ref fmas)))
    (lmas : K.lookup fmas = some ⟨ocmas, odmas, .func (PySem.W.fnOf "_law_machines" "_law_machines" (defArgs (topS 24)) (defBody (topS 24)) (defScope (topS 24)) .none kVmas dcmas pmmas anmas cdmas ctmas), slmas⟩)
    (cmas : PySem.W.codeIn K cdmas "_law_machines" = true)
    (kmas : PySem.W.keepIn K (.ref fmas) = true)
    (amet : PySem.W.nsIn K mainGlobals "_law_meeting" = some (some (.ref fmet)))
    (lmet : K.lookup fmet = some ⟨ocmet, odmet, .func (PySem.W.fnOf "_law_meeting" "_law_meeting" (defArgs (topS 25)) (defBody (topS 25)) (defScope (topS 25)) .none kVmet dcmet pmmet anmet cdmet ctmet), slmet⟩)
    (cmet : PySem.W.codeIn K cdmet "_law_meeting" = true)
    (kmet : PySem.W.keepIn K (.ref fmet) = true)
    (alks : PySem.W.nsIn K mainGlobals "_law_links" = some (some (.ref flks)))
    (llks : K.lookup flks = some ⟨oclks, odlks, .func (PySem.W.fnOf "_law_links" "_law_links" (defArgs (topS 26)) (defBody (topS 26)) (defScope (topS 26)) .none kVlks dclks pmlks anlks cdlks ctlks), sllks⟩)
    (clks : PySem.W.codeIn K cdlks "_law_links" = true)
    (klks : PySem.W.keepIn K (.ref flks) = true)
    (algs : PySem.W.nsIn K mainGlobals "_law_logs" = some (some (.ref flgs)))
    (llgs : K.lookup flgs = some ⟨oclgs, odlgs, .func (PySem.W.fnOf "_law_logs" "_law_logs" (defArgs (topS 27)) (defBody (topS 27)) (defScope (topS 27)) .none kVlgs dclgs pmlgs anlgs cdlgs ctlgs), sllgs⟩)
    (clgs : PySem.W.codeIn K cdlgs "_law_logs" = true)
    (klgs : PySem.W.keepIn K (.ref flgs) = true)
    (aljn : PySem.W.nsIn K mainGlobals "_law_join" = some (some (.ref fljn)))
    (lljn : K.lookup fljn = some ⟨ocljn, odljn, .func (PySem.W.fnOf "_law_join" "_law_join" (defArgs (topS 28)) (defBody (topS 28)) (defScope (topS 28)) .none kVljn dcljn pmljn anljn cdljn ctljn), slljn⟩)
    (cljn : PySem.W.codeIn K cdljn "_law_join" = true)
    (kljn : PySem.W.keepIn K (.ref fljn) = true)
    (alaw : PySem.W.nsIn K mainGlobals "law" = some (some (.ref flaw)))
    (llaw : K.lookup flaw = some ⟨oclaw, odlaw, .func (PySem.W.fnOf "law" "law" (defArgs (topS 29)) (defBody (topS 29)) (defScope (topS 29)) .none kVlaw dclaw pmlaw anlaw cdlaw ctlaw), sllaw⟩)
    (claw : PySem.W.codeIn K cdlaw "law" = true)
    (klaw : PySem.W.keepIn K (.ref flaw) = true)
    (aC : PySem.W.nsIn K mainGlobals "Run" = some (some (.ref C)))
    (pg : PySem.W.plainGet K C Str.empty = true)
    (hd : PySem.W.hasDictIn K C = true)
    (po : PySem.W.plainOver K C = true)
    (sa : PySem.W.findIn K (.ref C) "__setattr__" = some (some (.builtin "object.__setattr__")))
    (nR : PySem.W.findIn K (.ref C) "rows" = some none)
    (mk : PySem.W.makesIn K C = true)
    (kc : PySem.W.keepIn K (.ref C) = true)
    (minit : PySem.W.findIn K (.ref C) "__init__" = some (some (.ref finit)))
    (iinit : PySem.W.isFn K (.ref finit) = true)
    (linit : K.lookup finit = some ⟨ocinit, odinit, .func (PySem.W.fnOf "__init__" "Run.__init__" (defArgs (inClass (topS 11) 0)) (defBody (inClass (topS 11) 0)) (defScope (inClass (topS 11) 0)) .none kVinit dcinit pminit aninit cdinit ctinit), slinit⟩)
    (cinit : PySem.W.codeIn K cdinit "Run.__init__" = true)
    (kinit : PySem.W.keepIn K (.ref finit) = true)
    (mlen : PySem.W.findIn K (.ref C) "__len__" = some (some (.ref flen)))
    (ilen : PySem.W.isFn K (.ref flen) = true)
    (llen : K.lookup flen = some ⟨oclen, odlen, .func (PySem.W.fnOf "__len__" "Run.__len__" (defArgs (inClass (topS 11) 2)) (defBody (inClass (topS 11) 2)) (defScope (inClass (topS 11) 2)) .none kVlen dclen pmlen anlen cdlen ctlen), sllen⟩)
    (clen : PySem.W.codeIn K cdlen "Run.__len__" = true)
    (klen : PySem.W.keepIn K (.ref flen) = true)
    (mget : PySem.W.findIn K (.ref C) "__getitem__" = some (some (.ref fget)))
    (iget : PySem.W.isFn K (.ref fget) = true)
    (lget : K.lookup fget = some ⟨ocget, odget, .func (PySem.W.fnOf "__getitem__" "Run.__getitem__" (defArgs (inClass (topS 11) 4)) (defBody (inClass (topS 11) 4)) (defScope (inClass (topS 11) 4)) .none kVget dcget pmget anget cdget ctget), slget⟩)
    (cget : PySem.W.codeIn K cdget "Run.__getitem__" = true)
    (kget : PySem.W.keepIn K (.ref fget) = true)
    (fi : PySem.W.fnIn K fget = true)
    (gJ : PySem.W.nsIn K mainGlobals "NoJoin" = some (some (.ref CJ)))
    (eJ : PySem.W.excIn K CJ [.type "ValueError", .type "Exception", .type "BaseException", .type "object"] "ValueError.__new__" = true)
    (kJ : PySem.W.keepIn K (.ref CJ) = true)
    (sJ : PySem.W.subIn K (.ref CJ) (.type "BaseException") = some true)
    (tJ : PySem.W.typeIn K (.ref CJ) = some (.type "type"))
    (icJ : PySem.W.isClsIn K CJ = true)
    (sbJ : PySem.W.subIn K (.ref CJ) (.ref CJ) = some true)
    (z_isinstance : PySem.W.nsIn K mainGlobals "isinstance" = some (none))
    (z_int : PySem.W.nsIn K mainGlobals "int" = some (none))
    (z_bool : PySem.W.nsIn K mainGlobals "bool" = some (none))
    (z_len : PySem.W.nsIn K mainGlobals "len" = some (none))
    (z_any : PySem.W.nsIn K mainGlobals "any" = some (none))
    (z_tuple : PySem.W.nsIn K mainGlobals "tuple" = some (none))
    (z_abs : PySem.W.nsIn K mainGlobals "abs" = some (none))
    (z_range : PySem.W.nsIn K mainGlobals "range" = some (none))
    (z_list : PySem.W.nsIn K mainGlobals "list" = some (none))
    (z_enumerate : PySem.W.nsIn K mainGlobals "enumerate" = some (none))
    (z_set : PySem.W.nsIn K mainGlobals "set" = some (none))
    (z_all : PySem.W.nsIn K mainGlobals "all" = some (none))
    (z_min : PySem.W.nsIn K mainGlobals "min" = some (none)) :
    ∃ fd : FuncData, (∀ (s : Shared) (v : Value), BindsTo s fd ⟨[v], []⟩ [("_law_script", v)]) ∧ ∀ base : Heap, K.In base → base.Ns mainGlobals mg → FnOk P w K mg base CX0 7 fa fd ["_law_script"] (spLaw K) := by
  have e := hfa.symm.trans (PySem.W.mg_of X G alaw)
  cases e
  have Fisint := fun_mk (st := (topS 2)) lisint cisint kisint
  have Bisint := Fisint.binds (ps := ["value"]) fun _ _ _ _ _ _ us hl => match us, hl with | [_], _ => rfl
  have Findex := fun_mk (st := (topS 3)) lindex cindex kindex
  have Bindex := Findex.binds (ps := ["at", "count"]) fun _ _ _ _ _ _ us hl => match us, hl with | [_, _], _ => rfl
  have Fmach := fun_mk (st := (topS 9)) lmach cmach kmach
  have Bmach := Fmach.binds (ps := ["meeting"]) fun _ _ _ _ _ _ us hl => match us, hl with | [_], _ => rfl
  have Ffit := fun_mk (st := (topS 18)) lfit cfit kfit
  have Bfit := Ffit.binds (ps := ["log", "turn", "meeting"]) fun _ _ _ _ _ _ us hl => match us, hl with | [_, _, _], _ => rfl
  have Fent := fun_mk (st := (topS 15)) lent cent kent
  have Bent := Fent.binds (ps := ["logs"]) fun _ _ _ _ _ _ us hl => match us, hl with | [_], _ => rfl
  have Ftur := fun_mk (st := (topS 16)) ltur ctur ktur
  have Btur := Ftur.binds (ps := ["logs"]) fun _ _ _ _ _ _ us hl => match us, hl with | [_], _ => rfl
  have Ftak := fun_mk (st := (topS 17)) ltak ctak ktak
  have Btak := Ftak.binds (ps := ["logs"]) fun _ _ _ _ _ _ us hl => match us, hl with | [_], _ => rfl
  have Frdy := fun_mk (st := (topS 19)) lrdy crdy krdy
  have Brdy := Frdy.binds (ps := ["logs", "taken"]) fun _ _ _ _ _ _ us hl => match us, hl with | [_, _], _ => rfl
  have Fjoi := fun_mk (st := (topS 14)) ljoi cjoi kjoi
  have Bjoi := Fjoi.binds (ps := ["logs"]) fun _ _ _ _ _ _ us hl => match us, hl with | [_], _ => rfl
  have Fcellat := fun_mk (st := (topS 21)) lcellat ccellat kcellat
  have Bcellat := Fcellat.binds (ps := ["_law_script", "_law_k"]) fun _ _ _ _ _ _ us hl => match us, hl with | [_, _], _ => rfl
  have Fmixed := fun_mk (st := (topS 22)) lmixed cmixed kmixed
  have Bmixed := Fmixed.binds (ps := ["_law_cell", "_law_k"]) fun _ _ _ _ _ _ us hl => match us, hl with | [_, _], _ => rfl
  have Frow := fun_mk (st := (topS 23)) lrow crow krow
  have Brow := Frow.binds (ps := ["_law_cell", "_law_many"]) fun _ _ _ _ _ _ us hl => match us, hl with | [_, _], _ => rfl
  have Fmas := fun_mk (st := (topS 24)) lmas cmas kmas
  have Bmas := Fmas.binds (ps := ["_law_row_here"]) fun _ _ _ _ _ _ us hl => match us, hl with | [_], _ => rfl
  have Fmet := fun_mk (st := (topS 25)) lmet cmet kmet
  have Bmet := Fmet.binds (ps := ["_law_first", "_law_second", "_law_number", "_law_draw"]) fun _ _ _ _ _ _ us hl => match us, hl with | [_, _, _, _], _ => rfl
  have Flks := fun_mk (st := (topS 26)) llks clks klks
  have Blks := Flks.binds (ps := ["_law_machines_here", "_law_row_here", "_law_is_ring"]) fun _ _ _ _ _ _ us hl => match us, hl with | [_, _, _], _ => rfl
  have Flgs := fun_mk (st := (topS 27)) llgs clgs klgs
  have Blgs := Flgs.binds (ps := ["_law_meetings", "_law_many"]) fun _ _ _ _ _ _ us hl => match us, hl with | [_, _], _ => rfl
  have Fljn := fun_mk (st := (topS 28)) lljn cljn kljn
  have Bljn := Fljn.binds (ps := ["_law_logs_here"]) fun _ _ _ _ _ _ us hl => match us, hl with | [_], _ => rfl
  have Flaw := fun_mk (st := (topS 29)) llaw claw klaw
  have Blaw := Flaw.binds (ps := ["_law_script"]) fun _ _ _ _ _ _ us hl => match us, hl with | [_], _ => rfl
  have Finit := fun_mk (st := (inClass (topS 11) 0)) linit cinit kinit
  have Binit := Finit.binds (ps := ["self", "meetings"]) fun _ _ _ _ _ _ us hl => match us, hl with | [_, _], _ => rfl
  have Flen := fun_mk (st := (inClass (topS 11) 2)) llen clen klen
  have Blen := Flen.binds (ps := ["self"]) fun _ _ _ _ _ _ us hl => match us, hl with | [_], _ => rfl
  have Fget := fun_mk (st := (inClass (topS 11) 4)) lget cget kget
  have Bget := Fget.binds (ps := ["self", "at"]) fun _ _ _ _ _ _ us hl => match us, hl with | [_, _], _ => rfl
  have T : RunT K mg := { isinst := PySem.W.mg_none_of X G z_isinstance, int := PySem.W.mg_none_of X G z_int, bool := PySem.W.mg_none_of X G z_bool, len := PySem.W.mg_none_of X G z_len, any := PySem.W.mg_none_of X G z_any, tuple := PySem.W.mg_none_of X G z_tuple }
  have L : LawT K mg := { len := PySem.W.mg_none_of X G z_len, int := PySem.W.mg_none_of X G z_int, abs := PySem.W.mg_none_of X G z_abs, range := PySem.W.mg_none_of X G z_range }
  have R : RunC K mg C := { cl := ⟨pg, hd, po, sa⟩, nR := nR, mgC := PySem.W.mg_of X G aC }
  have J : JnT K mg CJ := { g := PySem.W.mg_of X G gJ, q := eJ, k := kJ, s := sJ, t := tJ, enum := PySem.W.mg_none_of X G z_enumerate, set := PySem.W.mg_none_of X G z_set, all := PySem.W.mg_none_of X G z_all, min := PySem.W.mg_none_of X G z_min }
  refine ⟨PySem.W.fnOf "law" "law" (defArgs (topS 29)) (defBody (topS 29)) (defScope (topS 29)) .none kVlaw dclaw pmlaw anlaw cdlaw ctlaw, fun s v => .of_eq rfl, fun base _ _ => ?_⟩
  have Gisint : CalX P w K mg base CX0 1 "is_int" spIsInt := ⟨_, _, _, ok_isint Fisint T, PySem.W.mg_of X G aisint, kisint, Bisint⟩
  have Gindex : CalX P w K mg base CX0 2 "is_index" spIndex := ⟨_, _, _, ok_index Findex Gisint, PySem.W.mg_of X G aindex, kindex, Bindex⟩
  have Gmach : CalX P w K mg base CX0 1 "machines_in" spMach := ⟨_, _, _, ok_mach Fmach, PySem.W.mg_of X G amach, kmach, Bmach⟩
  have Gcellat : CalX P w K mg base CX0 1 "_law_cell_at" (spCellAt K) := ⟨_, _, _, ok_cell_at Fcellat L, PySem.W.mg_of X G acellat, kcellat, Bcellat⟩
  have Gmixed : CalX P w K mg base CX0 1 "_law_mixed" spMixed := ⟨_, _, _, ok_mixed Fmixed L, PySem.W.mg_of X G amixed, kmixed, Bmixed⟩
  have Grow : CalX P w K mg base CX0 2 "_law_row" spRow := ⟨_, _, _, ok_row Frow L Gmixed, PySem.W.mg_of X G arow, krow, Brow⟩
  have MR : MakX P w K mg base CX0 1 "Run" C (spRunInit K C) := ⟨_, _, _, ⟨mk, minit, iinit, kc⟩, ok_runinit Finit T R, PySem.W.mg_of X G aC, Binit⟩
  have IX : IxM K C fget := ⟨mget, iget, fi⟩
  have LM : LenM K C flen := ⟨mlen, ilen⟩
  have Gfit : CalX P w K mg base CX0 3 "log_fits" spFit := ⟨_, _, _, ok_fit Ffit T Gindex, PySem.W.mg_of X G afit, kfit, Bfit⟩
  have Gent : CalX P w K mg base (L2.CX P w) 1 "check_entries" (spEnt CJ) := ⟨_, _, _, ok_ent Fent T J, PySem.W.mg_of X G aent, kent, Bent⟩
  have Gtur : CalX P w K mg base (L2.CX P w) 4 "check_turns" (spTur CJ) := ⟨_, _, _, ok_tur Ftur T J Gindex Gfit, PySem.W.mg_of X G atur, ktur, Btur⟩
  have Gtak : CalX P w K mg base (L2.CX P w) 1 "check_takers" (spTak CJ) := ⟨_, _, _, ok_tak Ftak T J, PySem.W.mg_of X G atak, ktak, Btak⟩
  have Grdy : CalX P w K mg base CX0 1 "ready_meetings" spRdy := ⟨_, _, _, ok_rdy Frdy T J, PySem.W.mg_of X G ardy, krdy, Brdy⟩
  have Gjoi : CalX P w K mg base (L2.CX P w) 5 "joined" (spJoin CJ C) := ⟨_, _, _, ok_joi Fjoi L T J Gent Gtur Gtak Grdy Gmach MR, PySem.W.mg_of X G ajoi, kjoi, Bjoi⟩
  have Gmas : CalX P w K mg base CX0 1 "_law_machines" spMas := ⟨_, _, _, ok_mas Fmas L (PySem.W.mg_none_of X G z_list), PySem.W.mg_of X G amas, kmas, Bmas⟩
  have Gmet : CalX P w K mg base CX0 1 "_law_meeting" spMet := ⟨_, _, _, ok_met Fmet L T, PySem.W.mg_of X G amet, kmet, Bmet⟩
  have Glks : CalX P w K mg base CX0 2 "_law_links" spLks := ⟨_, _, _, ok_lks Flks L Gmet, PySem.W.mg_of X G alks, klks, Blks⟩
  have Glgs : CalX P w K mg base CX0 1 "_law_logs" spLgs := ⟨_, _, _, ok_lgs Flgs L, PySem.W.mg_of X G algs, klgs, Blgs⟩
  have Gljn : CalX P w K mg base CX0 6 "_law_join" spLjn := ⟨_, _, _, ok_ljn Fljn L J (exm_own sJ icJ tJ sbJ) Gjoi IX (ok_runget Fget T R Gindex) Bget LM (ok_runlen Flen T R) Blen, PySem.W.mg_of X G aljn, kljn, Bljn⟩
  exact ok_law Flaw L Gcellat Grow Gmas Gmet Glks Glgs Gljn
theorem walk {l : PySem.W.OpenLaw} {q : Program} {loose : List Str} {XP : (Str → Option Value) → Heap → Prop} {YP : World → Heap → Prop} {d : DefRec} {K : Params → PySem.W.Frag} (hn : l.most = some 63) (hdf : d.params.defaults = [])
    (hY : ∀ (w : World) (h : Heap), YP w h → (K w.params).In h)
    (hF : ∀ (w : World) (mg : Str → Option Value) (fa : Addr) (h : Heap), (K w.params).In h → h.Ns mainGlobals mg → mg d.name = some (.ref fa) →
      ∃ fd : FuncData, (∀ (s : Shared) (u : Value), BindsTo s fd ⟨[u], []⟩ [("_law_script", u)]) ∧ ∀ base : Heap, (K w.params).In base → base.Ns mainGlobals mg → FnOk l.prog w (K w.params) mg base CX0 7 fa fd ["_law_script"] (spLaw (K w.params))) :
    PySem.W.WalkO q loose XP YP l.row.toRowW d [] (fun f vs => PySem.call f vs) :=
  L2.walk_of (n := 63) (k := 7) (x := "_law_script") (CX := fun _ => CX0) (sp := fun w => spLaw (K w.params)) hn (by decide) hdf ⟨rfl, by decide, by decide⟩ hY hF (fun _ _ a ns _ _ hS => ⟨a, ns, rfl, hS, fun _ _ => rfl⟩) fun _ _ _ _ _ z => z
end Fs

open PySem PySem.W PyProof.Rows
set_option Elab.async false
set_option maxRecDepth 100000 in
set_option maxHeartbeats 0 in
theorem PySem.Challenge.cw_fullseats_k71_rings_of_logs_holds : PySem.Challenge.rw_fullseats_k71_rings_of_logs.Holds := by
  w_on; o_law; k_head; (case hw => w_witness2)
  k_fill
  refine Fs.walk (l := PySem.Challenge.rw_fullseats_k71_rings_of_logs) rfl rfl (fun w h Y => PySem.W.kIn_of Y) ?F
  case F =>
    intro w mg fa h KX G hmg
    refine' Fs.all_mk KX G hmg ?aisint ?lisint ?cisint ?kisint ?aindex ?lindex ?cindex ?kindex ?amach ?lmach ?cmach ?kmach ?afit ?lfit ?cfit ?kfit ?aent ?lent ?cent ?kent ?atur ?ltur ?ctur ?ktur ?atak ?ltak ?ctak ?ktak ?ardy ?lrdy ?crdy ?krdy ?ajoi ?ljoi ?cjoi ?kjoi ?acellat ?lcellat ?ccellat ?kcellat ?amixed ?lmixed ?cmixed ?kmixed ?arow ?lrow ?crow ?krow ?amas ?lmas ?cmas ?kmas ?amet ?lmet ?cmet ?kmet ?alks ?llks ?clks ?klks ?algs ?llgs ?clgs ?klgs ?aljn ?lljn ?cljn ?kljn ?alaw ?llaw ?claw ?klaw ?aC ?pg ?hd ?po ?sa ?nR ?mk ?kc ?minit ?iinit ?linit ?cinit ?kinit ?mlen ?ilen ?llen ?clen ?klen ?mget ?iget ?lget ?cget ?kget ?fi ?gJ ?eJ ?kJ ?sJ ?tJ ?icJ ?sbJ ?z_isinstance ?z_int ?z_bool ?z_len ?z_any ?z_tuple ?z_abs ?z_range ?z_list ?z_enumerate ?z_set ?z_all ?z_min
    (case aisint => k_is)
    (case lisint => k_is)
    (case cisint => k_is)
    (case kisint => k_is)
    (case aindex => k_is)
    (case lindex => k_is)
    (case cindex => k_is)
    (case kindex => k_is)
    (case amach => k_is)
    (case lmach => k_is)
    (case cmach => k_is)
    (case kmach => k_is)
    (case afit => k_is)
    (case lfit => k_is)
    (case cfit => k_is)
    (case kfit => k_is)
    (case aent => k_is)
    (case lent => k_is)
    (case cent => k_is)
    (case kent => k_is)
    (case atur => k_is)
    (case ltur => k_is)
    (case ctur => k_is)
    (case ktur => k_is)
    (case atak => k_is)
    (case ltak => k_is)
    (case ctak => k_is)
    (case ktak => k_is)
    (case ardy => k_is)
    (case lrdy => k_is)
    (case crdy => k_is)
    (case krdy => k_is)
    (case ajoi => k_is)
    (case ljoi => k_is)
    (case cjoi => k_is)
    (case kjoi => k_is)
    (case acellat => k_is)
    (case lcellat => k_is)
    (case ccellat => k_is)
    (case kcellat => k_is)
    (case amixed => k_is)
    (case lmixed => k_is)
    (case cmixed => k_is)
    (case kmixed => k_is)
    (case arow => k_is)
    (case lrow => k_is)
    (case crow => k_is)
    (case krow => k_is)
    (case amas => k_is)
    (case lmas => k_is)
    (case cmas => k_is)
    (case kmas => k_is)
    (case amet => k_is)
    (case lmet => k_is)
    (case cmet => k_is)
    (case kmet => k_is)
    (case alks => k_is)
    (case llks => k_is)
    (case clks => k_is)
    (case klks => k_is)
    (case algs => k_is)
    (case llgs => k_is)
    (case clgs => k_is)
    (case klgs => k_is)
    (case aljn => k_is)
    (case lljn => k_is)
    (case cljn => k_is)
    (case kljn => k_is)
    (case alaw => k_is)
    (case llaw => k_is)
    (case claw => k_is)
    (case klaw => k_is)
    (case aC => k_is)
    (case pg => k_is)
    (case hd => k_is)
    (case po => k_is)
    (case sa => k_is)
    (case nR => k_is)
    (case mk => k_is)
    (case kc => k_is)
    (case minit => k_is)
    (case iinit => k_is)
    (case linit => k_is)
    (case cinit => k_is)
    (case kinit => k_is)
    (case mlen => k_is)
    (case ilen => k_is)
    (case llen => k_is)
    (case clen => k_is)
    (case klen => k_is)
    (case mget => k_is)
    (case iget => k_is)
    (case lget => k_is)
    (case cget => k_is)
    (case kget => k_is)
    (case fi => k_is)
    (case gJ => k_is)
    (case eJ => k_exc)
    (case kJ => k_is)
    (case sJ => k_is)
    (case tJ => k_is)
    (case icJ => k_is)
    (case sbJ => first | rfl | k_is)
    (case z_isinstance => k_is)
    (case z_int => k_is)
    (case z_bool => k_is)
    (case z_len => k_is)
    (case z_any => k_is)
    (case z_tuple => k_is)
    (case z_abs => k_is)
    (case z_range => k_is)
    (case z_list => k_is)
    (case z_enumerate => k_is)
    (case z_set => k_is)
    (case z_all => k_is)
    (case z_min => k_is)

