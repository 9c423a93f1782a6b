import PyProof.Rows.All
import Wide.All
import OpenK.AllK
import Wide.FinOn
import KE.DatumOrd
import HandS.Base
import HandS.Call
import HandS.List
import HandS.SortKw
import HandS.ForMost
import HandS.ForExc
import HandS.Evl
import HandS.Walk
import HandS.IsInst
import HandS.Codes
import HandS.Exc
import HandS.ExcOwn
import HandS.ClsMeth
import HandS.Flow
import HandS.Strs
import HandS.TupSets
import PyProof.FString
import KE.KSuper
import KE.KExcSuper
import KE.OsGo
import HandS.ExcField
import HandS.ExcInit
import HandS.ExcValue
import HandS.ExcIs
import KE.KOpsOwn
import KE.KDictPairs
import HandS.Dict
import HandS.More
import PyProof.DictDisplay
import PyProof.DictTable
import PyProof.Rows.StrMeet
import PyProof.Rows.TmSorted
import HandS.OwnEq
import HandS.DictComp
import HandS.TupAny
import HandS.WordsDict
import HandS.Defaults
import HandS.Star
import KE.KOwnIter
import KE.KDictIter
import PyProof.Rows.TupIter
import HandS.Iter
import HandS.IterNext
import HandS.OwnIter
import HandS.GenList
import PyProof.DictWalks
import HandS.Comp
import HandS.TryMany
import HandS.WordsExc
import PyProof.EqAt
import PyProof.NeKinds
import KE.KExcLine
import KE.RegKSuper
import PySem.Challenge.RW_fullseats_k14_definitions_that_never_off
set_option Elab.async false
set_option linter.all false
set_option maxRecDepth 100000
set_option maxHeartbeats 2000000
/-! max(xs, default=d) of a list of ints -/
namespace FsR
open PySem PySem.Spec PyProof.Rows L2
def maxFrom (y : Int) (ys : List Int) : Int := ys.foldl max y
def maxDef (d : Int) : List Int → Int
  | [] => d
  | y :: ys => maxFrom y ys
theorem maxOf_eq : ∀ (ys : List Int) (y : Int), PySem.W.maxOf y ys = maxFrom y ys
  | [], y => rfl
  | z :: zs, y => by
    have e : (if PySem.W.DatumOrd.lt y z = true then z else y) = max y z := by
      show (if decide (y < z) = true then z else y) = max y z
      by_cases h : y < z
      · rw [if_pos (decide_eq_true h)]; omega
      · rw [if_neg (by simpa using h)]; omega
    have ih := maxOf_eq zs (max y z)
    unfold PySem.W.maxOf maxFrom at *
    rw [List.foldl_cons, List.foldl_cons, e]
    exact ih
theorem readsAll_ints {h : Heap} : ∀ {vs : List Value} {ns : List Int}, IntsAre vs ns → ∃ as, ReadsAll h vs (ns.map PySem.W.Datum.toD) as
  | _, _, .nil => ⟨[], .nil⟩
  | _, _, .cons n t r => by
    obtain ⟨as, z⟩ := readsAll_ints (h := h) r
    exact ⟨[] ++ as, .cons (.int n t) z⟩
/-- max(xs, default=d) -/
def rMaxD (K : PySem.W.Frag) : List V → List V → Hp → VK → Prop := fun xs zs H Q => ∃ (a : Addr) (ns : List Int) (d : Int), xs = [V.ref a] ∧ zs = [V.int d] ∧ SqL K H a (ns.map V.int) ∧ Q (.int (maxDef d ns)) H
theorem ck_maxD {X : Cx} (hc : X.calm = true) (hu : X.A.units + 1 + 1 < cLine) : CallRK X (.builtin "max") ["default"] (rMaxD X.K) := by
  intro pins s σ H xs zs us ws Q I r rz h
  obtain ⟨a, ns, d, rfl, rfl, hs, q⟩ := h
  obtain ⟨its, rv, hl, _⟩ := I.list hs
  rw [Vals.ref1 r]
  cases rz with
  | cons rd rn =>
    cases rn
    obtain ⟨t, rfl⟩ := rd
    have hI := rv.ints
    show wpAny (model X.prog X.w) X.A (call (.builtin "max") [.ref a] [(Str.ofString "default", .int d t)]) _ _ _
    refine PySem.W.max_list_datum_default (α := Int) (xs := ns) (I.ok.hd hc) hl.isList (readsAll_ints hI) (by show X.A.units + 1 + 0 < cLine; omega) (fun e h' tk hk => ?_) (fun y ys i v h' tk e hi hv hk => ?_)
    · subst e
      exact ⟨.int d, H, I.kept hk, ⟨t, rfl⟩, q⟩
    · subst e
      obtain ⟨as, z⟩ := hv
      have z' : ∃ t', v = Value.int (PySem.W.maxOf y ys) t' := by
        have z2 : Reads h' v (.int (PySem.W.maxOf y ys)) as := z
        cases z2 with
        | int _ t' => exact ⟨t', rfl⟩
      obtain ⟨t', rfl⟩ := z'
      refine ⟨.int (PySem.W.maxOf y ys), H, I.kept hk, ⟨t', rfl⟩, ?_⟩
      rw [maxOf_eq]
      exact q
end FsR

set_option Elab.async false
set_option linter.all false
set_option maxRecDepth 100000
set_option maxHeartbeats 2000000
/-! further Ev lemmas -/
namespace FsE
open PySem L2 Evl
section
variable {K : PySem.W.Frag} {σ : L2.St} {H : Hp} {ta tb tc te : TE} {x y z : V}
theorem ev_chain {r r' : R2} {a b : Bool} (ha : Ev ta σ H x) (hb : Ev tb σ H y) (h1 : RV r x y H (.bl a)) (hc : a = true → Ev tc σ H z) (h2 : a = true → RV r' y z H (.bl b)) : Ev (tChain r r' ta tb tc) σ H (.bl (a && b)) := fun H1 e Q q =>
  ha H1 e _ fun H2 e2 => hb H2 (e.trans e2) _ fun H3 e3 => h1 H3 ((e.trans e2).trans e3) _ fun H4 e4 => ⟨a, rfl, by
    cases a with
    | true =>
      show tc σ H4 _
      exact hc rfl H4 (((e.trans e2).trans e3).trans e4) _ fun H5 e5 => h2 rfl H5 ((((e.trans e2).trans e3).trans e4).trans e5) Q fun H6 e6 => q H6 ((((e2.trans e3).trans e4).trans e5).trans e6)
    | false =>
      show Q (.bl false) H4
      exact q H4 ((e2.trans e3).trans e4)⟩
theorem rc_isi {t T : String} {b : Bool} (ht : ∀ H1, Ex H H1 → TyX K H1 x (.type t)) (hk : kitB t T = some b) : RC (rIsi K) [x, .ty T] H (.bl b) := fun H1 e Q q =>
  ⟨x, .ty T, .type t, .type T, b, rfl, .ty T, ht H1 e, kit_ty hk, q H1 (Ex.refl H1)⟩
theorem rc_isStr {z : Str} {T : String} {b : Bool} (hk : kitB "str" T = some b) : RC (rIsi K) [.str z, .ty T] H (.bl b) := rc_isi (fun _ _ => .base (.str z)) hk
theorem rc_isInt {i : Int} {T : String} {b : Bool} (hk : kitB "int" T = some b) : RC (rIsi K) [.int i, .ty T] H (.bl b) := rc_isi (fun _ _ => .base (.int i)) hk
/-- len of a text -/
theorem rc_lenS {z : Str} (hz : z.length ≤ sizeLine) : RC (fun xs H Q => ∃ a, xs = [.str a] ∧ a.length ≤ sizeLine ∧ Q (.int (a.length : Nat)) H) [.str z] H (.int (z.length : Nat)) := fun H1 _ _ q => ⟨z, rfl, hz, q H1 (Ex.refl H1)⟩
theorem rv_inSign {c : Nat} {z : Str} : RV (fun x y H Q => ∃ (c : Nat) (z : Str), x = .str ⟨#[c]⟩ ∧ y = .str z ∧ Q (.bl (decide (c ∈ z.cps.toList))) H) (.str ⟨#[c]⟩) (.str z) H (.bl (decide (c ∈ z.cps.toList))) := fun H1 _ _ q => ⟨c, z, rfl, rfl, q H1 (Ex.refl H1)⟩
theorem rv_niSign {c : Nat} {z : Str} : RV (fun x y H Q => ∃ (c : Nat) (z : Str), x = .str ⟨#[c]⟩ ∧ y = .str z ∧ Q (.bl (!decide (c ∈ z.cps.toList))) H) (.str ⟨#[c]⟩) (.str z) H (.bl (!decide (c ∈ z.cps.toList))) := fun H1 _ _ q => ⟨c, z, rfl, rfl, q H1 (Ex.refl H1)⟩
/-- a comprehension over a text -/
theorem el_lcS {z : Str} {tl : TE} {j : Nat} {vs : List Nat} {t : TT} (f : Nat → Bool) (v : Nat → V) (h : Ev tl σ H (.str z)) (hz : z.cps.size ≤ 40000) (hw : ∀ x, wipe ((wipe σ vs).set j (some x)) vs = wipe σ vs)
    (ht : ∀ (i : Nat) (c : Nat) H1, Ex H H1 → z.cps[i]? = some c → EvT t ((wipe σ vs).set j (some (.str ⟨#[c]⟩))) H1 (f i)) (he : ∀ (i : Nat) (c : Nat) H1, Ex H H1 → z.cps[i]? = some c → f i = true → Ev te ((wipe σ vs).set j (some (.str ⟨#[c]⟩))) H1 (v i)) :
    EvL (tLc (iStr tl) (gName j) t te vs) σ H (given z.cps.size f v) := fun H0 e Q q => h H0 e _ fun H1 e1 => ⟨z, rfl, fun Dl hD =>
  lc_it walk_str (Cw H1 f v Dl) ⟨hD, Ex.new hD, upd_same⟩ (fun _ _ _ _ => trivial) (fun i x H' H2 hi p y => by
    obtain ⟨rfl, c, hc, rfl⟩ := y
    exact ⟨hw _, cw_turn p (by omega) (ht i c H1 (e.trans e1) hc) (fun hf => he i c H1 (e.trans e1) hc hf)⟩)
    (fun H' p => q Dl H' (fresh_back e1 p.1) (e1.trans p.2.1) p.2.2)⟩
/-- all of a new list of bools -/
theorem ev_all {bs : List Bool} (h : EvL te σ H (bs.map V.bl)) : Ev (tCB (rAll K) (tCons te tNil)) σ H (.bl (bs.all id)) := fun H1 e Q q =>
  h H1 e _ fun p H2 _ e2 hp => ⟨p, bs, rfl, sq_of hp, q H2 e2⟩
/-- given, no test -/
theorem given_all {n : Nat} {v : Nat → V} : given n (fun _ => true) v = (List.range n).map v := by
  unfold given
  rw [List.filter_eq_self.mpr (fun _ _ => rfl)]
theorem et_nil : EvT tYes σ H true := fun H1 _ _ q => q H1 (Ex.refl H1)
theorem range_map {α : Type} (xs : List α) (d : α) (v : α → V) : (List.range xs.length).map (fun i => v (xs.getD i d)) = xs.map v := by
  refine List.ext_getElem? fun i => ?_
  rw [List.getElem?_map, List.getElem?_map]
  by_cases hi : i < xs.length
  · rw [List.getElem?_range hi, List.getElem?_eq_getElem hi]
    show some (v (xs.getD i d)) = some (v xs[i])
    rw [List.getD_eq_getElem?_getD, List.getElem?_eq_getElem hi]
    rfl
  · rw [List.getElem?_eq_none (by rw [List.length_range]; omega), List.getElem?_eq_none (by omega)]
    rfl
/-- [e for c in text] -/
theorem el_lcSm {z : Str} {tl : TE} {j : Nat} {vs : List Nat} (v : Nat → V) (h : Ev tl σ H (.str z)) (hz : z.length ≤ 40000) (hw : ∀ x, wipe ((wipe σ vs).set j (some x)) vs = wipe σ vs)
    (he : ∀ (c : Nat) H1, Ex H H1 → c ∈ z.cps.toList → Ev te ((wipe σ vs).set j (some (.str ⟨#[c]⟩))) H1 (v c)) : EvL (tLc (iStr tl) (gName j) tYes te vs) σ H (z.cps.toList.map v) := by
  have g := el_lcS (te := te) (j := j) (vs := vs) (t := tYes) (fun _ => true) (fun i => v (z.cps.toList.getD i 0)) h hz hw (fun _ _ _ _ _ => et_nil) (fun i c H3 e hc _ => by
    have e1 : z.cps.toList.getD i 0 = c := by
      rw [List.getD_eq_getElem?_getD, Array.getElem?_toList, hc]
      rfl
    rw [e1]
    exact he c H3 e (by rw [List.mem_iff_getElem?]; exact ⟨i, by rw [Array.getElem?_toList, hc]⟩))
  rw [given_all] at g
  have e := range_map z.cps.toList 0 v
  rw [Array.length_toList] at e
  rw [e] at g
  exact g
/-- [e for x in list] -/
theorem el_lcLm {a : Addr} {xs : List V} {tl : TE} {j : Nat} {vs : List Nat} (v : V → V) (h : Ev tl σ H (.ref a)) (hx : SqL K H a xs) (hz : xs.length ≤ 40000) (hw : ∀ x, wipe ((wipe σ vs).set j (some x)) vs = wipe σ vs)
    (he : ∀ (x : V) H1, Ex H H1 → x ∈ xs → Ev te ((wipe σ vs).set j (some x)) H1 (v x)) : EvL (tLc (iList K tl) (gName j) tYes te vs) σ H (xs.map v) := by
  have g := el_lcL (K := K) (te := te) (j := j) (vs := vs) (t := tYes) (fun _ => true) (fun i => v (xs.getD i .non)) h hx hz hw (fun _ _ _ _ _ => et_nil) (fun i x H3 e hc _ => by
    have e1 : xs.getD i .non = x := by
      rw [List.getD_eq_getElem?_getD, hc]
      rfl
    rw [e1]
    exact he x H3 e (List.mem_iff_getElem?.mpr ⟨i, hc⟩))
  rw [given_all, range_map xs .non v] at g
  exact g
/-- [e for x in (a new list)] -/
theorem el_lcNLm {xs : List V} {tl : TE} {j : Nat} {vs : List Nat} (v : V → V) (h : EvL tl σ H xs) (hz : xs.length ≤ 40000) (hw : ∀ x, wipe ((wipe σ vs).set j (some x)) vs = wipe σ vs)
    (he : ∀ (x : V) H1, Ex H H1 → x ∈ xs → Ev te ((wipe σ vs).set j (some x)) H1 (v x)) : EvL (tLc (iList K tl) (gName j) tYes te vs) σ H (xs.map v) := by
  have g := el_lcNL (K := K) (te := te) (j := j) (vs := vs) (t := tYes) (fun _ => true) (fun i => v (xs.getD i .non)) h hz hw (fun _ _ _ _ _ => et_nil) (fun i x H3 e hc _ => by
    have e1 : xs.getD i .non = x := by
      rw [List.getD_eq_getElem?_getD, hc]
      rfl
    rw [e1]
    exact he x H3 e (List.mem_iff_getElem?.mpr ⟨i, hc⟩))
  rw [given_all, range_map xs .non v] at g
  exact g
/-- [e for k in range(n)] -/
theorem el_lcRm {tn : TA} {j : Nat} {vs : List Nat} {n : Int} (v : Nat → V) (h : EvA tn σ H [.int n]) (hn : 0 ≤ n ∧ n ≤ 40000) (hw : ∀ x, wipe ((wipe σ vs).set j (some x)) vs = wipe σ vs)
    (he : ∀ (i : Nat) H1, Ex H H1 → (i : Int) < n → Ev te ((wipe σ vs).set j (some (.int (i : Int)))) H1 (v i)) : EvL (tLc (iRng1 tn) (gName j) tYes te vs) σ H ((List.range n.toNat).map v) := by
  have g := el_lcR1 (te := te) (j := j) (vs := vs) (t := tYes) (fun _ => true) v h hn hw (fun _ _ _ _ => et_nil) (fun i H1 e hi _ => he i H1 e hi)
  rw [given_all] at g
  exact g
/-- a comprehension over a tuple -/
theorem el_lcT {a : Addr} {xs : List V} {tl : TE} {j : Nat} {vs : List Nat} {t : TT} (f : Nat → Bool) (v : Nat → V) (h : Ev tl σ H (.ref a)) (hx : SqT K H a xs) (hz : xs.length ≤ 40000) (hw : ∀ x, wipe ((wipe σ vs).set j (some x)) vs = wipe σ vs)
    (ht : ∀ (i : Nat) (x : V) H1, Ex H H1 → xs[i]? = some x → EvT t ((wipe σ vs).set j (some x)) H1 (f i)) (he : ∀ (i : Nat) (x : V) H1, Ex H H1 → xs[i]? = some x → f i = true → Ev te ((wipe σ vs).set j (some x)) H1 (v i)) :
    EvL (tLc (iTup K tl) (gName j) t te vs) σ H (given xs.length f v) := fun H0 e Q q => h H0 e _ fun H1 e1 => ⟨a, rfl, ⟨xs, ex_t (e.trans e1) hx⟩, fun Dl hD =>
  lc_tup (xs := xs) (Cw H1 f v Dl) ⟨hD, Ex.new hD, upd_same⟩ (fun i H' _ p => ex_t ((e.trans e1).trans p.2.1) hx) (fun i x H' hi p => ⟨hw x, cw_turn p (by have := (List.getElem?_eq_some_iff.mp hi).1; omega) (ht i x H1 (e.trans e1) hi) (fun hf => he i x H1 (e.trans e1) hi hf)⟩)
    (fun H' p => q Dl H' (fresh_back e1 p.1) (e1.trans p.2.1) p.2.2)⟩
theorem ev_fld {a C dx : Addr} {fs : List (Str × V)} {f : Str} {v : V} (h : Ev ta σ H (.ref a)) (hi : H a = some (.ins C dx fs)) (cl : Cls K C) (n : NoAttr K C f) (l : fs.lookup f = some v) : Ev (tFld K ta f) σ H v := fun H1 e Q q =>
  h H1 e _ fun H2 e2 => ⟨a, C, dx, fs, v, rfl, (e.trans e2) _ _ hi, cl, n, l, q H2 e2⟩
theorem ev_sum {ns : List Int} (h : EvL te σ H (ns.map V.int)) : Ev (tCB (rSum K) (tCons te tNil)) σ H (.int ns.sum) := fun H1 e Q q =>
  h H1 e _ fun p H2 _ e2 hp => ⟨p, ns, rfl, sq_of hp, q H2 e2⟩
theorem ev_maxD {ns : List Int} {d : Int} (h : EvL te σ H (ns.map V.int)) : Ev (tCKw (FsR.rMaxD K) (tCons te tNil) (tCons (tC (.int d)) tNil)) σ H (.int (FsR.maxDef d ns)) := fun H1 e Q q =>
  h H1 e _ fun p H2 _ e2 hp => ⟨p, ns, d, rfl, rfl, sq_of hp, q H2 e2⟩
theorem ev_lenT {a : Addr} {xs : List V} (h : Ev ta σ H (.ref a)) (hx : SqT K H a xs) : Ev (tCB (fun xs H Q => ∃ p ys, xs = [V.ref p] ∧ (SqL K H p ys ∨ SqT K H p ys) ∧ Q (.int ys.length) H) (tCons ta tNil)) σ H (.int (xs.length : Int)) := fun H1 e Q q =>
  h H1 e _ fun H2 e2 => ⟨a, xs, rfl, .inr (ex_t (e.trans e2) hx), q H2 e2⟩
theorem rc_isiOwn {C : Addr} {t : Value} {b : Bool} (ht : ∀ H1, Ex H H1 → TyX K H1 x t) (hk : PySem.W.kitOne K t (.ref C) = some b) : RC (rIsi K) [x, .ref C] H (.bl b) := fun H1 e Q q =>
  ⟨x, .ref C, t, .ref C, b, rfl, .own C, ht H1 e, hk, q H1 (Ex.refl H1)⟩
theorem range_ys {xs ys : List V} (hl : ys.length = xs.length) : (List.range xs.length).map (fun i => ys.getD i .non) = ys := by
  have e := range_map ys .non (fun y => y)
  rw [List.map_id', hl] at e
  exact e
/-- comprehensions, the result told by its items -/
theorem el_lcNLy {xs ys : List V} {tl : TE} {j : Nat} {vs : List Nat} (h : EvL tl σ H xs) (hz : xs.length ≤ 40000) (hw : ∀ x, wipe ((wipe σ vs).set j (some x)) vs = wipe σ vs) (hl : ys.length = xs.length)
    (he : ∀ (i : Nat) (x y : V) H1, Ex H H1 → xs[i]? = some x → ys[i]? = some y → Ev te ((wipe σ vs).set j (some x)) H1 y) : EvL (tLc (iList K tl) (gName j) tYes te vs) σ H ys := by
  have g := el_lcNL (K := K) (te := te) (j := j) (vs := vs) (t := tYes) (fun _ => true) (fun i => ys.getD i .non) h hz hw (fun _ _ _ _ _ => et_nil) (fun i x H3 e hc _ => by
    have hi := (List.getElem?_eq_some_iff.mp hc).1
    have hy : ys[i]? = some (ys.getD i .non) := by rw [List.getD_eq_getElem?_getD, List.getElem?_eq_getElem (by omega)]; rfl
    exact he i x _ H3 e hc hy)
  rw [given_all, range_ys hl] at g
  exact g
theorem el_lcLy {a : Addr} {xs ys : List V} {tl : TE} {j : Nat} {vs : List Nat} (h : Ev tl σ H (.ref a)) (hx : SqL K H a xs) (hz : xs.length ≤ 40000) (hw : ∀ x, wipe ((wipe σ vs).set j (some x)) vs = wipe σ vs) (hl : ys.length = xs.length)
    (he : ∀ (i : Nat) (x y : V) H1, Ex H H1 → xs[i]? = some x → ys[i]? = some y → Ev te ((wipe σ vs).set j (some x)) H1 y) : EvL (tLc (iList K tl) (gName j) tYes te vs) σ H ys := by
  have g := el_lcL (K := K) (te := te) (j := j) (vs := vs) (t := tYes) (fun _ => true) (fun i => ys.getD i .non) h hx hz hw (fun _ _ _ _ _ => et_nil) (fun i x H3 e hc _ => by
    have hi := (List.getElem?_eq_some_iff.mp hc).1
    have hy : ys[i]? = some (ys.getD i .non) := by rw [List.getD_eq_getElem?_getD, List.getElem?_eq_getElem (by omega)]; rfl
    exact he i x _ H3 e hc hy)
  rw [given_all, range_ys hl] at g
  exact g
theorem el_lcTy {a : Addr} {xs ys : List V} {tl : TE} {j : Nat} {vs : List Nat} (h : Ev tl σ H (.ref a)) (hx : SqT K H a xs) (hz : xs.length ≤ 40000) (hw : ∀ x, wipe ((wipe σ vs).set j (some x)) vs = wipe σ vs) (hl : ys.length = xs.length)
    (he : ∀ (i : Nat) (x y : V) H1, Ex H H1 → xs[i]? = some x → ys[i]? = some y → Ev te ((wipe σ vs).set j (some x)) H1 y) : EvL (tLc (iTup K tl) (gName j) tYes te vs) σ H ys := by
  have g := el_lcT (K := K) (te := te) (j := j) (vs := vs) (t := tYes) (fun _ => true) (fun i => ys.getD i .non) h hx hz hw (fun _ _ _ _ _ => et_nil) (fun i x H3 e hc _ => by
    have hi := (List.getElem?_eq_some_iff.mp hc).1
    have hy : ys[i]? = some (ys.getD i .non) := by rw [List.getD_eq_getElem?_getD, List.getElem?_eq_getElem (by omega)]; rfl
    exact he i x _ H3 e hc hy)
  rw [given_all, range_ys hl] at g
  exact g
end
end FsE

set_option Elab.async false
set_option linter.all false
set_option maxRecDepth 100000
set_option maxHeartbeats 2000000
/-! A staticmethod that is called off its class. -/
namespace FsR
open PySem PySem.Spec PyProof.Rows L2 ClX
structure SMet (K : PySem.W.Frag) (C : Addr) (mc : Value) (m : Str) (p g : Addr) : Prop where
  at_ : PySem.W.findCls K (.ref C) mc m = some (.get (.builtin "staticmethod.__get__") (.ref p) .none (.ref C))
  rc : ∃ rest, PySem.W.recIn K p "staticmethod" = some (.ref g :: rest)
  kp : PySem.W.keepIn K (.ref g) = true
section
variable {X : Cx} {pins : List (Addr × Obj)} {σ : L2.St} {H : Hp} {s : Shared} {C p g : Addr} {mc : Value} {m : Str} {A : Around} {E : Value → Shared → Prop}
theorem getmethsm_ok {pl : Sem Bool} {Q : Value × List Value → Shared → Prop} (I : Inv X pins σ H s) (r : CRead X.K C mc) (k : SMet X.K C mc m p g)
    (h : ∀ s', Inv X pins σ H s' → Q (.ref g, []) s') : wpAny (model X.prog X.w) A (getMethod (.ref C) m pl) Q E s := by
  obtain ⟨rest, hp⟩ := k.rc
  exact PySem.W.method_cls I.kIn r.ga (PySem.W.cls_bind I.kIn r.rd k.at_ (wpAny_call (PySem.W.sm_get (s := { s with toks := s.toks + 1 }) I.kIn hp (PySem.W.handed_on rfl (h _ (I.tok _))))))
end
/-- C.m(..), e the class at C, m a staticmethod; E: what is wanted of what it raises, at the slots -/
def tStat (C : Addr) (sp : Sp) (E : L2.St → XK) (ta : TE) (t : TA) : TE := fun σ H Q => ta σ H fun x H1 => x = .ref C ∧ t σ H1 fun vs H2 => sp vs H2 Q (E σ)
theorem passesAt_of {CX : CXT} {X : Cx} {E : XK} (h : Passes CX X E) (σ : L2.St) : PassesAt CX X σ E := fun pins H s e s' I c => h pins σ H s e s' I c
section
variable {X : Cx} {CX : CXT} {k : Nat} {C p g : Addr} {mc : Value} {fd : FuncData} {ps : List Str} {sp : Sp} {E : L2.St → XK} {o e : Expr} {es : List Expr} {m : Str} {pos apos : Pos} {ta : TE} {t : TA} {pl : Sem Bool}
theorem pe_stat (he : PE X o ta) (r : CRead X.K C mc) (c : SMet X.K C mc m p g) (F : FnOk X.prog X.w X.K X.mg X.base CX k g fd ps sp) (hr : Room k X.A) (hb : Binds X.K fd ps []) (hx : ∀ σ, PassesAt CX X σ (E σ)) (ha : PA X (e :: es) t)
    (hst : starEach (e :: es) X.env = (false, eval e X.env) :: starEach es X.env := by rfl) (hpl : (backTo pos (starEach es X.env)).any (·.1) = false := by rfl)
    (ht : eval (.Call (.Attribute o m apos) (e :: es) [] pos) X.env = (do
      let ov ← eval o X.env
      standAt apos.atName
      let (f, first) ← holding [ov] (getMethod ov m pl)
      callWith pos f first (backTo pos (starEach (e :: es) X.env)) (backToKw pos (keywordEach [] X.env))) := by rfl) :
    PE X (.Call (.Attribute o m apos) (e :: es) [] pos) (tStat C sp E ta t) := by
  refine ⟨fun pins s σ H Q I h => ?_⟩
  refine PySem.W.methodCall_KW (pl := pl) (thn (he.run pins s σ H _ I h) fun u s1 ⟨x, H1, I1, rx, ex, q⟩ => ?_) ht
  subst ex
  obtain rfl : u = Value.ref C := rx
  refine getmethsm_ok I1 r c fun s2 I2 => ?_
  refine PySem.W.callWith_K (first := []) (h₀ := X.base) I.ok.mod.kin c.kp (thn (ha.run pos pins s2 σ H1 _ I2 q) fun us s3 ⟨vs, H2, I3, rv, q2⟩ => ⟨I3.kIn, ?_⟩) hst hpl
  exact run_fnS F hr hb (hx σ) I3 rv q2
theorem pe_stat0 (he : PE X o ta) (r : CRead X.K C mc) (c : SMet X.K C mc m p g) (F : FnOk X.prog X.w X.K X.mg X.base CX k g fd ps sp) (hr : Room k X.A) (hb : Binds X.K fd ps []) (hx : ∀ σ, PassesAt CX X σ (E σ))
    (ht : eval (.Call (.Attribute o m apos) [] [] pos) X.env = (do
      let ov ← eval o X.env
      standAt apos.atName
      let (f, first) ← holding [ov] (getMethod ov m pl)
      callWith pos f first (backTo pos (starEach [] X.env)) (backToKw pos (keywordEach [] X.env))) := by rfl) :
    PE X (.Call (.Attribute o m apos) [] [] pos) (tStat C sp E ta tNil) := by
  refine ⟨fun pins s σ H Q I h => ?_⟩
  refine PySem.W.methodCall_KW (pl := pl) (thn (he.run pins s σ H _ I h) fun u s1 ⟨x, H1, I1, rx, ex, q⟩ => ?_) ht
  subst ex
  obtain rfl : u = Value.ref C := rx
  refine getmethsm_ok I1 r c fun s2 I2 => ?_
  exact PySem.W.callWith_K0 (first := []) I2.kIn c.kp (run_fnS (us := []) (vs := []) F hr hb (hx σ) I2 .nil q)
end
end FsR

set_option Elab.async false
set_option linter.all false
set_option maxRecDepth 100000
set_option maxHeartbeats 2000000
namespace FsC
open PySem L2 Evl ClX FsR
/-- a def of the module that may be called by its name -/
structure CalX (P : Program) (w : World) (K : PySem.W.Frag) (mg : Str → Option Value) (base : Heap) (CX : CXT) (k : Nat) (x : Str) (sp : Sp) : Prop where
  ex : ∃ (f : Addr) (fd : FuncData) (ps : List Str), FnOk P w K mg base CX k f fd ps sp ∧ mg x = some (.ref f) ∧ PySem.W.keepIn K (.ref f) = true ∧ Binds K fd ps []
/-- C.m, a staticmethod of the class at C -/
structure StaX (P : Program) (w : World) (K : PySem.W.Frag) (mg : Str → Option Value) (base : Heap) (CX : CXT) (k : Nat) (C : Addr) (m : Str) (sp : Sp) : Prop where
  ex : ∃ (p f : Addr) (mc : Value) (fd : FuncData) (ps : List Str), CRead K C mc ∧ SMet K C mc m p f ∧ FnOk P w K mg base CX k f fd ps sp ∧ Binds K fd ps []
/-- C(..): a class that is made by its name -/
structure MakX (P : Program) (w : World) (K : PySem.W.Frag) (mg : Str → Option Value) (base : Heap) (CX : CXT) (k : Nat) (x : Str) (C : Addr) (sp : Sp) : Prop where
  ex : ∃ (f : Addr) (fd : FuncData) (ps : List Str), Mk K C f ∧ FnOk P w K mg base CX k f fd ps sp ∧ mg x = some (.ref C) ∧ Binds K fd ps []
section
variable {X : Cx} {CX : CXT} {k j : Nat} {C : Addr} {x m : Str} {sp : Sp} {E : L2.St → XK} {p pos apos : Pos} {e o : Expr} {es : List Expr} {ta : TE} {t : TA}
theorem pe_cx (c : CalX X.prog X.w X.K X.mg X.base CX k x sp) (hr : Room j X.A) (hk : k ≤ j) (hg : Gl X x) (hx : ∀ σ, PassesAt CX X σ (E σ)) (ha : PA X (e :: es) t)
    (hdb : (x == ("__debug__" : Str)) = false := by decide) (he : starEach (e :: es) X.env = (false, eval e X.env) :: starEach es X.env := by rfl) (hpl : (backTo pos (starEach es X.env)).any (·.1) = false := by rfl) :
    PE X (.Call (.Name x p) (e :: es) [] pos) (tCallS sp E t) := by
  obtain ⟨f, fd, ps, F, hm, kp, b⟩ := c.ex
  exact pe_callS F (hr.mono hk) hg hm kp b hx ha hdb he hpl
theorem pe_sx {pl : Sem Bool} (c : StaX X.prog X.w X.K X.mg X.base CX k C m sp) (hr : Room j X.A) (hk : k ≤ j) (ho : PE X o ta) (hx : ∀ σ, PassesAt CX X σ (E σ)) (ha : PA X (e :: es) t)
    (hst : starEach (e :: es) X.env = (false, eval e X.env) :: starEach es X.env := by rfl) (hpl : (backTo pos (starEach es X.env)).any (·.1) = false := by rfl)
    (ht : eval (.Call (.Attribute o m apos) (e :: es) [] pos) X.env = (do
      let ov ← eval o X.env
      standAt apos.atName
      let (f, first) ← holding [ov] (getMethod ov m pl)
      callWith pos f first (backTo pos (starEach (e :: es) X.env)) (backToKw pos (keywordEach [] X.env))) := by rfl) :
    PE X (.Call (.Attribute o m apos) (e :: es) [] pos) (tStat C sp E ta t) := by
  obtain ⟨p, f, mc, fd, ps, r, s, F, b⟩ := c.ex
  exact pe_stat (pl := pl) ho r s F (hr.mono hk) b hx ha hst hpl ht
theorem pe_sx0 {pl : Sem Bool} (c : StaX X.prog X.w X.K X.mg X.base CX k C m sp) (hr : Room j X.A) (hk : k ≤ j) (ho : PE X o ta) (hx : ∀ σ, PassesAt CX X σ (E σ))
    (ht : eval (.Call (.Attribute o m apos) [] [] pos) X.env = (do
      let ov ← eval o X.env
      standAt apos.atName
      let (f, first) ← holding [ov] (getMethod ov m pl)
      callWith pos f first (backTo pos (starEach [] X.env)) (backToKw pos (keywordEach [] X.env))) := by rfl) :
    PE X (.Call (.Attribute o m apos) [] [] pos) (tStat C sp E ta tNil) := by
  obtain ⟨p, f, mc, fd, ps, r, s, F, b⟩ := c.ex
  exact pe_stat0 (pl := pl) ho r s F (hr.mono hk) b hx ht
theorem pe_mx {E : XK} (c : MakX X.prog X.w X.K X.mg X.base CX k x C sp) (hr : Room j X.A) (hk : k + 1 ≤ j) (hg : Gl X x) (hx : Passes CX X E) (ha : PA X (e :: es) t)
    (hdb : (x == ("__debug__" : Str)) = false := by decide) (he : starEach (e :: es) X.env = (false, eval e X.env) :: starEach es X.env := by rfl) (hpl : (backTo pos (starEach es X.env)).any (·.1) = false := by rfl) :
    PE X (.Call (.Name x p) (e :: es) [] pos) (tMake C sp [] E t) := by
  obtain ⟨f, fd, ps, M, F, hm, b⟩ := c.ex
  exact pe_make M F (hr.mono hk) hg hm b .nil hx ha hdb he hpl
theorem at0 {X : Cx} {E : L2.St → XK} : ∀ σ, PassesAt CX0 X σ (E σ) := fun _ _ _ _ _ _ _ h => h.elim
/-- what a call within a def that may raise lets out -/
theorem atX {P : Program} {w : World} {X : Cx} {E : XK} (h : Passes (L2.CX P w) X E) : ∀ σ, PassesAt (L2.CX P w) X σ ((fun _ => E) σ) := fun σ => passesAt_of h σ
end
section
variable {σ : L2.St} {H : Hp} {z : V} {sp : Sp} {ta : TA} {vs : List V} {E : L2.St → XK}
theorem ev_cx (h : EvA ta σ H vs) (hs : SpV sp vs H z) : Ev (tCallS sp E ta) σ H z := fun H1 e Q q =>
  h H1 e _ fun H2 e2 => hs H2 (e.trans e2) Q (fun H3 e3 => q H3 (e2.trans e3)) (E σ)
theorem ev_sx {C : Addr} {to : TE} (ho : Ev to σ H (.ref C)) (h : EvA ta σ H vs) (hs : SpV sp vs H z) : Ev (tStat C sp E to ta) σ H z := fun H1 e Q q =>
  ho H1 e _ fun H2 e2 => ⟨rfl, h H2 (e.trans e2) _ fun H3 e3 => hs H3 ((e.trans e2).trans e3) Q (fun H4 e4 => q H4 ((e2.trans e3).trans e4)) (E σ)⟩
theorem el_cx {xs : List V} (h : EvA ta σ H vs) (hs : SpL sp vs H xs) : EvL (tCallS sp E ta) σ H xs := fun H1 e Q q =>
  h H1 e _ fun H2 e2 => hs H2 (e.trans e2) Q (fun p H3 hp e3 h3 => q p H3 (fresh_back e2 hp) (e2.trans e3) h3) (E σ)
end
end FsC

set_option Elab.async false
set_option linter.all false
set_option maxRecDepth 100000
set_option maxHeartbeats 2000000
namespace Fs
open PySem L2 Evl
/-! ### operands, processes, offers -/
inductive Opd where
  | int (i : Int)
  | nm (z : Str)
def Opd.v : Opd → V
  | .int i => .int i
  | .nm z => .str z
mutual
inductive Pr where
  | choice (os : Ofs)
  | new (n : Str) (k : Int) (r : Pr)
  | cond (l r : Opd) (y n : Pr)
  | call (n : Str) (ops : List Opd)
inductive Ofs where
  | nil
  | cons (c : Str) (seat seats : Int) (op : Opd) (names : List Str) (rest : Pr) (os : Ofs)
end
mutual
def Pr.depth : Pr → Int
  | .choice os => 1 + os.depth
  | .new _ _ r => 1 + r.depth
  | .cond _ _ y n => 1 + max y.depth n.depth
  | .call _ _ => 1
def Ofs.depth : Ofs → Int
  | .nil => 0
  | .cons _ _ _ _ _ r os => max r.depth os.depth
end
def Ofs.len : Ofs → Nat
  | .nil => 0
  | .cons _ _ _ _ _ _ os => os.len + 1
mutual
def Pr.size : Pr → Int
  | .choice os => max 1 (os.len : Int) + os.sum
  | .new _ _ r => 1 + r.size
  | .cond _ _ y n => 1 + (y.size + n.size)
  | .call _ _ => 1
def Ofs.sum : Ofs → Int
  | .nil => 0
  | .cons _ _ _ _ _ r os => r.size + os.sum
end
def Pr.kind : Pr → Str
  | .choice _ => "choice"
  | .new _ _ _ => "new"
  | .cond _ _ _ _ => "if"
  | .call _ _ => "call"
/-- the attributes, in the order in which __init__ stores them -/
def pFlds (k : Str) (t : Addr) (d z : Int) : List (Str × V) := putF "size" (.int z) (putF "depth" (.int d) (putF "parts" (.ref t) (putF "kind" (.str k) [])))
theorem n1 : ¬ (("kind" : Str) = "parts") := by decide +kernel
theorem n2 : ¬ (("kind" : Str) = "depth") := by decide +kernel
theorem n3 : ¬ (("kind" : Str) = "size") := by decide +kernel
theorem n4 : ¬ (("parts" : Str) = "depth") := by decide +kernel
theorem n5 : ¬ (("parts" : Str) = "size") := by decide +kernel
theorem n6 : ¬ (("depth" : Str) = "size") := by decide +kernel
theorem pf_kind {k : Str} {t : Addr} {d z : Int} : (pFlds k t d z).lookup ("kind" : Str) = some (.str k) := by
  unfold pFlds
  rw [lookup_putF, if_neg n3, lookup_putF, if_neg n2, lookup_putF, if_neg n1, lookup_putF, if_pos rfl]
theorem pf_parts {k : Str} {t : Addr} {d z : Int} : (pFlds k t d z).lookup ("parts" : Str) = some (.ref t) := by
  unfold pFlds
  rw [lookup_putF, if_neg n5, lookup_putF, if_neg n4, lookup_putF, if_pos rfl]
theorem pf_depth {k : Str} {t : Addr} {d z : Int} : (pFlds k t d z).lookup ("depth" : Str) = some (.int d) := by
  unfold pFlds
  rw [lookup_putF, if_neg n6, lookup_putF, if_pos rfl]
theorem pf_size {k : Str} {t : Addr} {d z : Int} : (pFlds k t d z).lookup ("size" : Str) = some (.int z) := by
  unfold pFlds
  rw [lookup_putF, if_pos rfl]
/-- an instance of the class at C with these parts -/
def InsAt (C : Addr) (H : Hp) (a : Addr) (k : Str) (t : Addr) (d z : Int) : Prop := ∃ dx, H a = some (.ins C dx (pFlds k t d z))
mutual
/-- at a stands the process p -/
def PrAt (C : Addr) (H : Hp) (a : Addr) : Pr → Prop
  | .choice os => ∃ t ps, InsAt C H a "choice" t (1 + os.depth) (max 1 (os.len : Int) + os.sum) ∧ H t = some (.tup ps) ∧ OfsAt C H ps os
  | .new n k r => ∃ t b, InsAt C H a "new" t (1 + r.depth) (1 + r.size) ∧ H t = some (.tup [.str n, .int k, .ref b]) ∧ PrAt C H b r
  | .cond l r y n => ∃ t b c, InsAt C H a "if" t (1 + max y.depth n.depth) (1 + (y.size + n.size)) ∧ H t = some (.tup [l.v, r.v, .ref b, .ref c]) ∧ PrAt C H b y ∧ PrAt C H c n
  | .call n ops => ∃ t u, InsAt C H a "call" t 1 1 ∧ H t = some (.tup [.str n, .ref u]) ∧ H u = some (.tup (ops.map Opd.v))
def OfsAt (C : Addr) (H : Hp) (ps : List V) : Ofs → Prop
  | .nil => ps = []
  | .cons c s m op ns r os => ∃ o u b qs, ps = .ref o :: qs ∧ H o = some (.tup [.str c, .int s, .int m, op.v, .ref u, .ref b]) ∧ H u = some (.tup (ns.map V.str)) ∧ PrAt C H b r ∧ OfsAt C H qs os
end
theorem InsAt.ex {C : Addr} {H H' : Hp} {a : Addr} {k : Str} {t : Addr} {d z : Int} (e : Ex H H') (h : InsAt C H a k t d z) : InsAt C H' a k t d z := by
  obtain ⟨dx, h⟩ := h
  exact ⟨dx, e _ _ h⟩
mutual
theorem PrAt.ex {C : Addr} {H H' : Hp} (e : Ex H H') : ∀ {p : Pr} {a : Addr}, PrAt C H a p → PrAt C H' a p
  | .choice os, a, h => by
    unfold PrAt at h ⊢
    obtain ⟨t, ps, h1, h2, h3⟩ := h
    exact ⟨t, ps, h1.ex e, e _ _ h2, OfsAt.ex e h3⟩
  | .new n k r, a, h => by
    unfold PrAt at h ⊢
    obtain ⟨t, b, h1, h2, h3⟩ := h
    exact ⟨t, b, h1.ex e, e _ _ h2, PrAt.ex e h3⟩
  | .cond l r y n, a, h => by
    unfold PrAt at h ⊢
    obtain ⟨t, b, c, h1, h2, h3, h4⟩ := h
    exact ⟨t, b, c, h1.ex e, e _ _ h2, PrAt.ex e h3, PrAt.ex e h4⟩
  | .call n ops, a, h => by
    unfold PrAt at h ⊢
    obtain ⟨t, u, h1, h2, h3⟩ := h
    exact ⟨t, u, h1.ex e, e _ _ h2, e _ _ h3⟩
theorem OfsAt.ex {C : Addr} {H H' : Hp} (e : Ex H H') : ∀ {os : Ofs} {ps : List V}, OfsAt C H ps os → OfsAt C H' ps os
  | .nil, ps, h => by
    unfold OfsAt at h ⊢
    exact h
  | .cons c s m op ns r os, ps, h => by
    unfold OfsAt at h ⊢
    obtain ⟨o, u, b, qs, h1, h2, h3, h4, h5⟩ := h
    exact ⟨o, u, b, qs, h1, e _ _ h2, e _ _ h3, PrAt.ex e h4, OfsAt.ex e h5⟩
end
/-- whatever the process: its instance -/
theorem PrAt.ins {C : Addr} {H : Hp} {p : Pr} {a : Addr} (h : PrAt C H a p) : ∃ t ps, InsAt C H a p.kind t p.depth p.size ∧ H t = some (.tup ps) := by
  cases p with
  | choice os =>
    unfold PrAt at h
    obtain ⟨t, ps, h1, h2, _⟩ := h
    exact ⟨t, ps, by unfold Pr.kind Pr.depth Pr.size; exact h1, h2⟩
  | new n k r =>
    unfold PrAt at h
    obtain ⟨t, b, h1, h2, _⟩ := h
    exact ⟨t, _, by unfold Pr.kind Pr.depth Pr.size; exact h1, h2⟩
  | cond l r y n =>
    unfold PrAt at h
    obtain ⟨t, b, c, h1, h2, _⟩ := h
    exact ⟨t, _, by unfold Pr.kind Pr.depth Pr.size; exact h1, h2⟩
  | call n ops =>
    unfold PrAt at h
    obtain ⟨t, u, h1, h2, _⟩ := h
    exact ⟨t, _, by unfold Pr.kind Pr.depth Pr.size; exact h1, h2⟩
end Fs

set_option Elab.async false
set_option linter.all false
set_option maxRecDepth 100000
set_option maxHeartbeats 2000000
namespace Fs
open PySem L2 Evl FsE FsC
def topS (i : Nat) : Stmt := PySem.Challenge.pw_fullseats_k14_definitions_that_never_off.main.body.getD i (.Pass ⟨0, 0, 0, 0⟩)
/-! ### names -/
def lettersS : Str := "abcdefghijklmnopqrstuvwxyz"
def digitsS : Str := "0123456789"
def reservedV : List V := [.str "stop", .str "new", .str "if", .str "then", .str "else", .str "put", .str "get", .str "channel", .str "at", .str "define", .str "start"]
def signOk (c : Nat) : Bool := decide (c ∈ lettersS.cps.toList) || decide (c ∈ digitsS.cps.toList)
def nameS (z : Str) : Bool := decide (1 ≤ z.length) && decide (z.length ≤ 8) && decide (z.cps.toList.headD 0 ∈ lettersS.cps.toList) && !inV (.str z) reservedV && z.cps.toList.all signOk
def nameV : V → Bool
  | .str z => nameS z
  | _ => false
/-- an operand's kind of value: an int, or a text of a length within the line -/
def OpV : V → Prop
  | .int _ => True
  | .str z => z.length ≤ 40000
  | _ => False
def spPred (f : V → Bool) : Sp := fun vs H Q _ => ∃ v, vs = [v] ∧ OpV v ∧ RetV (.bl (f v)) H Q
def GC (mg : Str → Option Value) (x : Str) (v : V) : Prop := ∃ u, mg x = some u ∧ RelV v u
structure BasT (K : PySem.W.Frag) (mg : Str → Option Value) : Prop where
  letters : GC mg "LETTERS" (.str lettersS)
  digits : GC mg "DIGITS" (.str digitsS)
  nlen : GC mg "NAME_LENGTH" (.int 8)
  reserved : ∃ a, mg "RESERVED" = some (.ref a) ∧ ∀ H, SqT K H a reservedV
  toolong : GC mg "TOO_LONG" (.int (10 ^ 30))
  seats : GC mg "MOST_SEATS" (.int 4)
  isinst : mg "isinstance" = none
  str : mg "str" = none
  int : mg "int" = none
  bool : mg "bool" = none
  len : mg "len" = none
  all : mg "all" = none
theorem str_len (z : Str) : z.length = z.cps.toList.length := by
  unfold Str.length
  rw [Array.length_toList]
section
variable {P : Program} {w : World} {K : PySem.W.Frag} {mg : Str → Option Value} {base : Heap}
theorem scName : FnScope ["text", "sign"] ["text"] (defScope (topS 8)) := ⟨rfl, rfl, rfl, by decide +kernel, rfl, by decide +kernel, by decide +kernel⟩
theorem ok_is_name {f : Addr} {fd : FuncData} (F : Fun K "is_name" "is_name" (topS 8) f fd) (T : BasT K mg) : FnOk P w K mg base CX0 1 f fd ["text"] (spPred nameV) := by
  refine F.ok scName (fun vs H Q E h => ?_) (fun cdv A outer s H vs Q E hr h => ?_)
  · obtain ⟨v, rfl, _⟩ := h
    rfl
  · obtain ⟨v, rfl, hv, k⟩ := h
    obtain ⟨aR, gR, hR⟩ := T.reserved
    refine ⟨_, pss_cons (ps_if (PW.pt (pw_or (pt_not (pt_val (pe_callB call_isi (by rfl) T.isinst (by decide +kernel) (pa_cons (pv 0) (pa_cons (pe_bltn (v := .ty "str") (by rfl) T.str (by decide +kernel) rfl) pa_nil)))))
        (pw_or1 (pt_not (pt_chain op_le op_le pe_int (pe_callB call_len_str (by rfl) T.len PySem.boot_len (pa_cons (pv 0) pa_nil)) (C8.pe_gc (by rfl) T.nlen)))))) (pss_one (ps_ret pe_bl)) pss_nil)
      (pss_cons (ps_if (PW.pt (pw_or (pt_cmpR op_notIn_sign (pe_ix ix_str (pv 0) pe_int (fun _ _ => rfl)) (C8.pe_gc (by rfl) T.letters) (by rfl))
        (pw_or1 (pt_cmpR op_in_seq (pv 0) (pe_glob (v := .ref aR) (by rfl) gR rfl) (by rfl))))) (pss_one (ps_ret pe_bl)) pss_nil)
      (pss_one (ps_ret (pe_callB (cr_all rfl) (by rfl) T.all (by decide +kernel) (pa_cons
        (pe_lc (own := [("sign", 1)]) (g := gName 1) (tt := tYes) rfl scName.nd (pi_str (pv 0)) (blkOk_by (own := [("sign", 1)]) (N := ["text", "sign"]) (sc := defScope (topS 8)) (by decide +kernel))
          (fun _ _ _ _ _ => pg_name (i := 1) scName.nd rfl (Or.inl rfl)) (fun _ _ _ _ _ => pts_nil)
          (fun _ _ _ _ _ => pe_or (pe_cmpR op_in_sign (pv 1) (C8.pe_gc (by rfl) T.letters) (by rfl)) (pe_one (pe_cmpR op_in_sign (pv 1) (C8.pe_gc (by rfl) T.digits) (by rfl))))) pa_nil))))), ?_⟩
    cases v with
    | int i =>
      refine q_when (b := true) (et_is (et_or (et_not (et_B (ev_cb (ea_cons (ev_var rfl) (ea_cons ev_c ea_nil)) (rc_isInt (b := false) (by decide +kernel))))) (fun q => nomatch q) (b := true)) rfl) (fun _ H1 e1 => ?_) (fun q => nomatch q)
      exact s_ret ev_c fun H2 e2 => k H2 (e1.trans e2)
    | str z =>
      have hz : z.length ≤ 40000 := hv
      have hz2 : z.length ≤ sizeLine := sz_of (by omega)
      refine q_when (b := !(decide ((1 : Int) ≤ (z.length : Nat)) && decide (((z.length : Nat) : Int) ≤ 8))) (et_is (et_or (et_not (et_B (ev_cb (ea_cons (ev_var rfl) (ea_cons ev_c ea_nil)) (rc_isStr (b := true) (by decide +kernel)))))
        (fun _ => et_not (et_test (ev_chain ev_c (ev_cb (ea_cons (ev_var rfl) ea_nil) (rc_lenS hz2)) rv_I0 (fun _ => ev_c) (fun _ => rv_I0))))) rfl) (fun hb H1 e1 => ?_) (fun hb H1 e1 => ?_)
      · refine s_ret ev_c fun H2 e2 => ?_
        have e : nameV (.str z) = false := by
          show nameS z = false
          unfold nameS
          have : (decide (1 ≤ z.length) && decide (z.length ≤ 8)) = false := by
            have hb' : ((z.length : Nat) : Int) < 1 ∨ 8 < ((z.length : Nat) : Int) := by simpa using hb
            simp only [Bool.and_eq_false_iff, decide_eq_false_iff_not]
            omega
          rw [this]
          rfl
        have q := k H2 (e1.trans e2)
        rw [e] at q
        exact q
      · have hb' : 1 ≤ z.length ∧ z.length ≤ 8 := by
          have : ((1 : Int) ≤ (z.length : Nat) ∧ ((z.length : Nat) : Int) ≤ 8) := by simpa using hb
          omega
        obtain ⟨c, r, hc⟩ : ∃ c r, z.cps.toList = c :: r := by
          cases e : z.cps.toList with
          | nil =>
            have := str_len z
            rw [e] at this
            simp at this
            omega
          | cons c r => exact ⟨c, r, rfl⟩
        have h0 : atI z.cps.toList 0 = some c := atI_nat (j := 0) (by rw [hc]; rfl)
        refine q_when (b := !decide (c ∈ lettersS.cps.toList) || inV (.str z) reservedV) (et_or (et_test (ev_op (ev_op (ev_var rfl) ev_c (rv_ixS (by omega) h0)) ev_c rv_niSign))
          (fun _ => et_test (ev_op (ev_var rfl) ev_c (rv_isT (hR _) rfl (by decide +kernel))))) (fun hb2 H2 e2 => ?_) (fun hb2 H2 e2 => ?_)
        · refine s_ret ev_c fun H3 e3 => ?_
          have e : nameV (.str z) = false := by
            show nameS z = false
            unfold nameS
            rw [hc]
            have : (decide (c ∈ lettersS.cps.toList) && !inV (.str z) reservedV) = false := by
              rw [Bool.or_eq_true] at hb2
              rcases hb2 with hb2 | hb2
              · have : decide (c ∈ lettersS.cps.toList) = false := by simpa using hb2
                rw [this]
                rfl
              · rw [hb2]
                simp
            show (decide (1 ≤ z.length) && decide (z.length ≤ 8) && decide (c ∈ lettersS.cps.toList) && !inV (.str z) reservedV && (c :: r).all signOk) = false
            rw [Bool.and_assoc (decide (1 ≤ z.length) && decide (z.length ≤ 8)), this]
            simp
          have q := k H3 ((e1.trans e2).trans e3)
          rw [e] at q
          exact q
        · refine s_ret (ev_all (bs := z.cps.toList.map signOk) (by
            rw [List.map_map]
            exact el_lcSm (V.bl ∘ signOk) (ev_var rfl) (by omega) (fun _ => rfl) (fun c H3 _ _ => ev_orV (ev_op (ev_var rfl) ev_c rv_inSign) (fun _ => ev_op (ev_var rfl) ev_c rv_inSign)))) fun H3 e3 => ?_
          have e : nameV (.str z) = (z.cps.toList.map signOk).all id := by
            show nameS z = _
            unfold nameS
            rw [hc]
            rw [Bool.or_eq_false_iff] at hb2
            have a1 : decide (c ∈ lettersS.cps.toList) = true := by simpa using hb2.1
            show (decide (1 ≤ z.length) && decide (z.length ≤ 8) && decide (c ∈ lettersS.cps.toList) && !inV (.str z) reservedV && (c :: r).all signOk) = _
            rw [decide_eq_true hb'.1, decide_eq_true hb'.2, a1, hb2.2, List.all_map]
            rfl
          have q := k H3 ((e1.trans e2).trans e3)
          rw [e] at q
          exact q
    | _ => exact hv.elim
/-! ### integers, operands, seats -/
def intV : V → Bool
  | .int _ => true
  | _ => false
def shortV : V → Bool
  | .int i => decide (-(10 ^ 30) < i) && decide (i < 10 ^ 30)
  | _ => false
def operandV (v : V) : Bool := shortV v || nameV v
def seatsV : V → Bool
  | .int i => decide (1 ≤ i) && decide (i ≤ 4)
  | _ => false
theorem sp_pred {f : V → Bool} {v : V} {H : Hp} (h : OpV v) : SpV (spPred f) [v] H (.bl (f v)) := fun H1 _ Q q E => ⟨v, rfl, h, fun H2 e => q H2 e⟩
theorem scInt : FnScope ["value"] ["value"] (defScope (topS 10)) := ⟨rfl, rfl, rfl, by decide +kernel, rfl, by decide +kernel, by decide +kernel⟩
theorem ok_is_int {f : Addr} {fd : FuncData} (F : Fun K "is_int" "is_int" (topS 10) f fd) (T : BasT K mg) : FnOk P w K mg base CX0 1 f fd ["value"] (spPred intV) := by
  refine F.ok scInt (fun vs H Q E h => ?_) (fun cdv A outer s H vs Q E hr h => ?_)
  · obtain ⟨v, rfl, _⟩ := h
    rfl
  · obtain ⟨v, rfl, hv, k⟩ := h
    refine ⟨_, pss_one (ps_ret (pe_and (pe_callB call_isi (by rfl) T.isinst (by decide +kernel) (pa_cons (pv 0) (pa_cons (pe_bltn (v := .ty "int") (by rfl) T.int (by decide +kernel) rfl) pa_nil)))
      (pe_one (pe_not (pe_callB call_isi (by rfl) T.isinst (by decide +kernel) (pa_cons (pv 0) (pa_cons (pe_bltn (v := .ty "bool") (by rfl) T.bool (by decide +kernel) rfl) pa_nil))))))), ?_⟩
    cases v with
    | int i => exact s_ret (ev_andV (a := true) (b := true) (ev_cb (ea_cons (ev_var rfl) (ea_cons ev_c ea_nil)) (rc_isInt (by decide +kernel)))
        (fun _ => ev_notV (a := false) (ev_cb (ea_cons (ev_var rfl) (ea_cons ev_c ea_nil)) (rc_isInt (by decide +kernel))))) k
    | str z => exact s_ret (ev_andV (a := false) (b := true) (ev_cb (ea_cons (ev_var rfl) (ea_cons ev_c ea_nil)) (rc_isStr (by decide +kernel))) (fun q => nomatch q)) k
    | _ => exact hv.elim
theorem scShort : FnScope ["value"] ["value"] (defScope (topS 11)) := ⟨rfl, rfl, rfl, by decide +kernel, rfl, by decide +kernel, by decide +kernel⟩
theorem ok_is_short {f : Addr} {fd : FuncData} (F : Fun K "is_short" "is_short" (topS 11) f fd) (T : BasT K mg) (GI : CalX P w K mg base CX0 1 "is_int" (spPred intV)) : FnOk P w K mg base CX0 2 f fd ["value"] (spPred shortV) := by
  refine F.ok scShort (fun vs H Q E h => ?_) (fun cdv A outer s H vs Q E hr h => ?_)
  · obtain ⟨v, rfl, _⟩ := h
    rfl
  · obtain ⟨v, rfl, hv, k⟩ := h
    refine ⟨_, pss_one (ps_ret (pe_and (pe_cx (E := fun _ => E0) GI hr (by decide) (by rfl) at0 (pa_cons (pv 0) pa_nil))
      (pe_one (pe_chain op_lt op_lt (pe_un un_neg (C8.pe_gc (by rfl) T.toolong)) (pv 0) (C8.pe_gc (by rfl) T.toolong))))), ?_⟩
    cases v with
    | int i => exact s_ret (ev_andV (a := true) (ev_cx (ea_cons (ev_var rfl) ea_nil) (sp_pred hv)) (fun _ => ev_chain (ev_un ev_c ru_neg) (ev_var rfl) rv_I0 (fun _ => ev_c) (fun _ => rv_I0))) k
    | str z => exact s_ret (ev_andV (a := false) (b := true) (ev_cx (ea_cons (ev_var rfl) ea_nil) (sp_pred hv)) (fun q => nomatch q)) k
    | _ => exact hv.elim
theorem scOperand : FnScope ["part"] ["part"] (defScope (topS 12)) := ⟨rfl, rfl, rfl, by decide +kernel, rfl, by decide +kernel, by decide +kernel⟩
theorem ok_is_operand {f : Addr} {fd : FuncData} (F : Fun K "is_operand" "is_operand" (topS 12) f fd) (GS : CalX P w K mg base CX0 2 "is_short" (spPred shortV)) (GN : CalX P w K mg base CX0 1 "is_name" (spPred nameV)) :
    FnOk P w K mg base CX0 3 f fd ["part"] (spPred operandV) := by
  refine F.ok scOperand (fun vs H Q E h => ?_) (fun cdv A outer s H vs Q E hr h => ?_)
  · obtain ⟨v, rfl, _⟩ := h
    rfl
  · obtain ⟨v, rfl, hv, k⟩ := h
    refine ⟨_, pss_one (ps_ret (pe_or (pe_cx (E := fun _ => E0) GS hr (by decide) (by rfl) at0 (pa_cons (pv 0) pa_nil)) (pe_one (pe_cx (E := fun _ => E0) GN hr (by decide) (by rfl) at0 (pa_cons (pv 0) pa_nil))))), ?_⟩
    exact s_ret (ev_orV (ev_cx (ea_cons (ev_var rfl) ea_nil) (sp_pred hv)) (fun _ => ev_cx (ea_cons (ev_var rfl) ea_nil) (sp_pred hv))) k
theorem scSeats : FnScope ["count"] ["count"] (defScope (topS 13)) := ⟨rfl, rfl, rfl, by decide +kernel, rfl, by decide +kernel, by decide +kernel⟩
theorem ok_is_seats {f : Addr} {fd : FuncData} (F : Fun K "is_seats" "is_seats" (topS 13) f fd) (T : BasT K mg) (GI : CalX P w K mg base CX0 1 "is_int" (spPred intV)) : FnOk P w K mg base CX0 2 f fd ["count"] (spPred seatsV) := by
  refine F.ok scSeats (fun vs H Q E h => ?_) (fun cdv A outer s H vs Q E hr h => ?_)
  · obtain ⟨v, rfl, _⟩ := h
    rfl
  · obtain ⟨v, rfl, hv, k⟩ := h
    refine ⟨_, pss_one (ps_ret (pe_and (pe_cx (E := fun _ => E0) GI hr (by decide) (by rfl) at0 (pa_cons (pv 0) pa_nil))
      (pe_one (pe_chain op_le op_le pe_int (pv 0) (C8.pe_gc (by rfl) T.seats))))), ?_⟩
    cases v with
    | int i => exact s_ret (ev_andV (a := true) (ev_cx (ea_cons (ev_var rfl) ea_nil) (sp_pred hv)) (fun _ => ev_chain ev_c (ev_var rfl) rv_I0 (fun _ => ev_c) (fun _ => rv_I0))) k
    | str z => exact s_ret (ev_andV (a := false) (b := true) (ev_cx (ea_cons (ev_var rfl) ea_nil) (sp_pred hv)) (fun q => nomatch q)) k
    | _ => exact hv.elim
end
end Fs

set_option Elab.async false
set_option linter.all false
set_option maxRecDepth 100000
set_option maxHeartbeats 2000000
namespace Fs
open PySem L2 Evl FsE FsC FsR
/-- the parts of a process, as its tuple holds them -/
def PartsAt (C : Addr) (H : Hp) (ps : List V) : Pr → Prop
  | .choice os => OfsAt C H ps os
  | .new n k r => ∃ b, ps = [.str n, .int k, .ref b] ∧ PrAt C H b r
  | .cond l r y n => ∃ b c, ps = [l.v, r.v, .ref b, .ref c] ∧ PrAt C H b y ∧ PrAt C H c n
  | .call n ops => ∃ u, ps = [.str n, .ref u] ∧ H u = some (.tup (ops.map Opd.v))
theorem PartsAt.ex {C : Addr} {H H' : Hp} {ps : List V} {p : Pr} (e : Ex H H') (h : PartsAt C H ps p) : PartsAt C H' ps p := by
  cases p with
  | choice os => exact OfsAt.ex e h
  | new n k r =>
    obtain ⟨b, h1, h2⟩ := h
    exact ⟨b, h1, h2.ex e⟩
  | cond l r y n =>
    obtain ⟨b, c, h1, h2, h3⟩ := h
    exact ⟨b, c, h1, h2.ex e, h3.ex e⟩
  | call n ops =>
    obtain ⟨u, h1, h2⟩ := h
    exact ⟨u, h1, e _ _ h2⟩
theorem PrAt.mk {C : Addr} {H : Hp} {a t : Addr} {ps : List V} {p : Pr} (h1 : InsAt C H a p.kind t p.depth p.size) (h2 : H t = some (.tup ps)) (h3 : PartsAt C H ps p) : PrAt C H a p := by
  cases p with
  | choice os =>
    unfold PrAt
    unfold Pr.kind Pr.depth Pr.size at h1
    exact ⟨t, ps, h1, h2, h3⟩
  | new n k r =>
    unfold PrAt
    unfold Pr.kind Pr.depth Pr.size at h1
    obtain ⟨b, rfl, h4⟩ := h3
    exact ⟨t, b, h1, h2, h4⟩
  | cond l r y n =>
    unfold PrAt
    unfold Pr.kind Pr.depth Pr.size at h1
    obtain ⟨b, c, rfl, h4, h5⟩ := h3
    exact ⟨t, b, c, h1, h2, h4, h5⟩
  | call n ops =>
    unfold PrAt
    unfold Pr.kind Pr.depth Pr.size at h1
    obtain ⟨u, rfl, h4⟩ := h3
    exact ⟨t, u, h1, h2, h4⟩
theorem PrAt.out {C : Addr} {H : Hp} {a : Addr} {p : Pr} (h : PrAt C H a p) : ∃ t ps, InsAt C H a p.kind t p.depth p.size ∧ H t = some (.tup ps) ∧ PartsAt C H ps p := by
  cases p with
  | choice os =>
    unfold PrAt at h
    obtain ⟨t, ps, h1, h2, h3⟩ := h
    exact ⟨t, ps, by unfold Pr.kind Pr.depth Pr.size; exact h1, h2, h3⟩
  | new n k r =>
    unfold PrAt at h
    obtain ⟨t, b, h1, h2, h3⟩ := h
    exact ⟨t, _, by unfold Pr.kind Pr.depth Pr.size; exact h1, h2, b, rfl, h3⟩
  | cond l r y n =>
    unfold PrAt at h
    obtain ⟨t, b, c, h1, h2, h3, h4⟩ := h
    exact ⟨t, _, by unfold Pr.kind Pr.depth Pr.size; exact h1, h2, b, c, rfl, h3, h4⟩
  | call n ops =>
    unfold PrAt at h
    obtain ⟨t, u, h1, h2, h3⟩ := h
    exact ⟨t, _, by unfold Pr.kind Pr.depth Pr.size; exact h1, h2, u, rfl, h3⟩
/-! ### what is contained directly -/
def Ofs.rests : Ofs → List Pr
  | .nil => []
  | .cons _ _ _ _ _ r os => r :: os.rests
def Pr.inner : Pr → List Pr
  | .choice os => os.rests
  | .new _ _ r => [r]
  | .cond _ _ y n => [y, n]
  | .call _ _ => []
/-- a list of processes, by their addresses -/
def InnAt (C : Addr) (H : Hp) : List V → List Pr → Prop
  | [], [] => True
  | x :: xs, p :: ps => (∃ a, x = .ref a ∧ PrAt C H a p) ∧ InnAt C H xs ps
  | _, _ => False
theorem InnAt.ex {C : Addr} {H H' : Hp} (e : Ex H H') : ∀ {xs : List V} {ps : List Pr}, InnAt C H xs ps → InnAt C H' xs ps
  | [], [], _ => True.intro
  | x :: xs, p :: ps, ⟨⟨a, h1, h2⟩, h3⟩ => ⟨⟨a, h1, h2.ex e⟩, InnAt.ex e h3⟩
  | [], _ :: _, h => h.elim
  | _ :: _, [], h => h.elim
theorem InnAt.get {C : Addr} {H : Hp} : ∀ {xs : List V} {ps : List Pr} {x : V}, InnAt C H xs ps → x ∈ xs → ∃ a p, x = .ref a ∧ PrAt C H a p ∧ p ∈ ps
  | [], _, _, _, hx => nomatch hx
  | y :: xs, [], _, h, _ => h.elim
  | y :: xs, p :: ps, x, ⟨⟨a, h1, h2⟩, h3⟩, hx => by
    rcases List.mem_cons.mp hx with rfl | hx
    · exact ⟨a, p, h1, h2, List.mem_cons_self⟩
    · obtain ⟨b, q, k1, k2, k3⟩ := InnAt.get h3 hx
      exact ⟨b, q, k1, k2, List.mem_cons_of_mem _ k3⟩
theorem InnAt.length {C : Addr} {H : Hp} : ∀ {xs : List V} {ps : List Pr}, InnAt C H xs ps → xs.length = ps.length
  | [], [], _ => rfl
  | x :: xs, p :: ps, ⟨_, h⟩ => congrArg (· + 1) (InnAt.length h)
  | [], _ :: _, h => h.elim
  | _ :: _, [], h => h.elim
theorem Ofs.rests_len : ∀ os : Ofs, os.rests.length = os.len
  | .nil => rfl
  | .cons _ _ _ _ _ r os => congrArg (· + 1) (Ofs.rests_len os)
/-- the greatest depth, the sum of the sizes -/
theorem Ofs.sum_eq : ∀ os : Ofs, os.sum = (os.rests.map Pr.size).sum
  | .nil => rfl
  | .cons _ _ _ _ _ r os => by
    unfold Ofs.sum Ofs.rests
    rw [List.map_cons, List.sum_cons, Ofs.sum_eq os]
mutual
theorem Pr.depth_pos : ∀ p : Pr, 1 ≤ p.depth
  | .choice os => by
    unfold Pr.depth
    have := Ofs.depth_nn os
    omega
  | .new _ _ r => by
    unfold Pr.depth
    have := Pr.depth_pos r
    omega
  | .cond _ _ y n => by
    unfold Pr.depth
    have := Pr.depth_pos y
    have := Pr.depth_pos n
    omega
  | .call _ _ => by
    unfold Pr.depth
    omega
theorem Ofs.depth_nn : ∀ os : Ofs, 0 ≤ os.depth
  | .nil => by
    unfold Ofs.depth
    omega
  | .cons _ _ _ _ _ r os => by
    unfold Ofs.depth
    have := Pr.depth_pos r
    omega
end
theorem maxFrom_ge : ∀ (ys : List Int) (y : Int), maxFrom y ys = max y (maxFrom 0 ys) ∨ (y < 0)
  | [], y => by
    unfold maxFrom
    simp only [List.foldl_nil]
    omega
  | z :: zs, y => by
    have h1 := maxFrom_ge zs (max y z)
    have h2 := maxFrom_ge zs (max 0 z)
    unfold maxFrom at *
    simp only [List.foldl_cons]
    omega
theorem Ofs.depth_eq : ∀ os : Ofs, maxDef 0 (os.rests.map Pr.depth) = os.depth
  | .nil => rfl
  | .cons _ _ _ _ _ r os => by
    unfold Ofs.rests Ofs.depth
    rw [List.map_cons]
    show maxFrom r.depth (os.rests.map Pr.depth) = max r.depth os.depth
    have ih := Ofs.depth_eq os
    have hr := Pr.depth_pos r
    cases hr2 : os.rests.map Pr.depth with
    | nil =>
      rw [hr2] at ih
      have e0 : (0 : Int) = os.depth := ih
      unfold maxFrom
      simp only [List.foldl_nil]
      omega
    | cons y ys =>
      rw [hr2] at ih
      have e0 : maxFrom y ys = os.depth := ih
      have hy : 1 ≤ y := by
        have : y ∈ os.rests.map Pr.depth := by rw [hr2]; exact List.mem_cons_self
        obtain ⟨q, _, rfl⟩ := List.mem_map.mp this
        exact Pr.depth_pos q
      have h1 := maxFrom_ge ys y
      have h2 := maxFrom_ge ys (max r.depth y)
      show maxFrom (max r.depth y) ys = _
      omega
theorem Pr.depth_eq (p : Pr) : 1 + maxDef 0 (p.inner.map Pr.depth) = p.depth := by
  cases p with
  | choice os =>
    unfold Pr.inner Pr.depth
    rw [Ofs.depth_eq]
  | new n k r =>
    unfold Pr.depth
    rfl
  | cond l r y n =>
    unfold Pr.depth
    rfl
  | call n ops =>
    unfold Pr.depth
    rfl
def Pr.own : Pr → Int
  | .choice os => max 1 (os.len : Int)
  | _ => 1
theorem Pr.size_eq (p : Pr) : p.own + (p.inner.map Pr.size).sum = p.size := by
  cases p with
  | choice os =>
    unfold Pr.inner Pr.size Pr.own
    rw [Ofs.sum_eq]
  | new n k r =>
    unfold Pr.size Pr.own Pr.inner
    simp
  | cond l r y n =>
    unfold Pr.size Pr.own Pr.inner
    simp
  | call n ops =>
    unfold Pr.size Pr.own Pr.inner
    simp
theorem OfsAt.len {C : Addr} {H : Hp} : ∀ {os : Ofs} {ps : List V}, OfsAt C H ps os → ps.length = os.len
  | .nil, ps, h => by
    unfold OfsAt at h
    rw [h]
    rfl
  | .cons c s m op ns r os, ps, h => by
    unfold OfsAt at h
    obtain ⟨o, u, b, qs, h1, _, _, _, h5⟩ := h
    rw [h1]
    exact congrArg (· + 1) (OfsAt.len h5)
/-- the rests of the offers -/
theorem OfsAt.rests {C : Addr} {H : Hp} : ∀ {os : Ofs} {ps : List V}, OfsAt C H ps os → ∃ rs : List V, rs.length = ps.length ∧ InnAt C H rs os.rests ∧
    ∀ (i : Nat) (x : V), ps[i]? = some x → ∃ (o : Addr) (c : Str) (s m : Int) (op : Opd) (u : Addr) (y : V), x = .ref o ∧ rs[i]? = some y ∧ H o = some (.tup [.str c, .int s, .int m, op.v, .ref u, y])
  | .nil, ps, h => by
    unfold OfsAt at h
    subst h
    exact ⟨[], rfl, True.intro, fun i x hx => by simp at hx⟩
  | .cons c s m op ns r os, ps, h => by
    unfold OfsAt at h
    obtain ⟨o, u, b, qs, rfl, h2, h3, h4, h5⟩ := h
    obtain ⟨rs, k1, k2, k3⟩ := OfsAt.rests h5
    refine ⟨.ref b :: rs, congrArg (· + 1) k1, ⟨⟨b, rfl, h4⟩, k2⟩, fun i x hx => ?_⟩
    cases i with
    | zero =>
      have e : V.ref o = x := by simpa using hx
      subst e
      exact ⟨o, c, s, m, op, u, .ref b, rfl, rfl, h2⟩
    | succ i =>
      obtain ⟨o', c', s', m', op', u', y', z1, z2, z3⟩ := k3 i x (by simpa using hx)
      exact ⟨o', c', s', m', op', u', y', z1, by simpa using z2, z3⟩
/-- rs: what a process with these parts contains directly -/
def InnOf (C : Addr) (H : Hp) (ps rs : List V) : Pr → Prop
  | .choice os => rs.length = ps.length ∧ InnAt C H rs os.rests ∧
    ∀ (i : Nat) (x : V), ps[i]? = some x → ∃ (o : Addr) (c : Str) (s m : Int) (op : Opd) (u : Addr) (y : V), x = .ref o ∧ rs[i]? = some y ∧ H o = some (.tup [.str c, .int s, .int m, op.v, .ref u, y])
  | .new n k r => ∃ b, ps = [.str n, .int k, .ref b] ∧ rs = [.ref b] ∧ PrAt C H b r
  | .cond l r y n => ∃ b c, ps = [l.v, r.v, .ref b, .ref c] ∧ rs = [.ref b, .ref c] ∧ PrAt C H b y ∧ PrAt C H c n
  | .call n ops => ∃ u, ps = [.str n, .ref u] ∧ rs = [] ∧ H u = some (.tup (ops.map Opd.v))
theorem InnOf.ex {C : Addr} {H H' : Hp} {ps rs : List V} {p : Pr} (e : Ex H H') (h : InnOf C H ps rs p) : InnOf C H' ps rs p := by
  cases p with
  | choice os =>
    obtain ⟨h1, h2, h3⟩ := h
    refine ⟨h1, h2.ex e, fun i x hx => ?_⟩
    obtain ⟨o, c, s, m, op, u, y, z1, z2, z3⟩ := h3 i x hx
    exact ⟨o, c, s, m, op, u, y, z1, z2, e _ _ z3⟩
  | new n k r =>
    obtain ⟨b, h1, h2, h3⟩ := h
    exact ⟨b, h1, h2, h3.ex e⟩
  | cond l r y n =>
    obtain ⟨b, c, h1, h2, h3, h4⟩ := h
    exact ⟨b, c, h1, h2, h3.ex e, h4.ex e⟩
  | call n ops =>
    obtain ⟨u, h1, h2, h3⟩ := h
    exact ⟨u, h1, h2, e _ _ h3⟩
theorem PartsAt.inn {C : Addr} {H : Hp} {ps : List V} {p : Pr} (h : PartsAt C H ps p) : ∃ rs, InnOf C H ps rs p := by
  cases p with
  | choice os =>
    obtain ⟨rs, h1, h2, h3⟩ := OfsAt.rests h
    exact ⟨rs, h1, h2, h3⟩
  | new n k r =>
    obtain ⟨b, h1, h2⟩ := h
    exact ⟨[.ref b], b, h1, rfl, h2⟩
  | cond l r y n =>
    obtain ⟨b, c, h1, h2, h3⟩ := h
    exact ⟨[.ref b, .ref c], b, c, h1, rfl, h2, h3⟩
  | call n ops =>
    obtain ⟨u, h1, h2⟩ := h
    exact ⟨[], u, h1, rfl, h2⟩
theorem InnOf.at {C : Addr} {H : Hp} {ps rs : List V} {p : Pr} (h : InnOf C H ps rs p) : InnAt C H rs p.inner := by
  cases p with
  | choice os => exact h.2.1
  | new n k r =>
    obtain ⟨b, _, rfl, h3⟩ := h
    exact ⟨⟨b, rfl, h3⟩, True.intro⟩
  | cond l r y n =>
    obtain ⟨b, c, _, rfl, h3, h4⟩ := h
    exact ⟨⟨b, rfl, h3⟩, ⟨c, rfl, h4⟩, True.intro⟩
  | call n ops =>
    obtain ⟨u, _, rfl, _⟩ := h
    exact True.intro
theorem InnAt.at_ {C : Addr} {H : Hp} : ∀ {xs : List V} {ps : List Pr} {i : Nat} {x : V}, InnAt C H xs ps → xs[i]? = some x → ∃ a p, x = .ref a ∧ PrAt C H a p ∧ ps[i]? = some p
  | [], _, _, _, _, hx => by simp at hx
  | y :: xs, [], _, _, h, _ => h.elim
  | y :: xs, p :: ps, 0, x, ⟨⟨a, h1, h2⟩, h3⟩, hx => by
    have e : y = x := by simpa using hx
    subst e
    exact ⟨a, p, h1, h2, rfl⟩
  | y :: xs, p :: ps, i + 1, x, ⟨_, h3⟩, hx => by
    obtain ⟨b, q, k1, k2, k3⟩ := InnAt.at_ (i := i) h3 (by simpa using hx)
    exact ⟨b, q, k1, k2, by simpa using k3⟩
end Fs

set_option Elab.async false
set_option linter.all false
set_option maxRecDepth 100000
set_option maxHeartbeats 2000000
namespace Fs
open PySem L2 Evl FsE FsC FsR
/-! ### what raises: an own error of one argument -/
/-- X(e) made, to be raised: its own dict d, new, holds the argument under f -/
def tMkE (C : Addr) (f : Str) (ta : TA) : L2.St → Hp → XK → Prop := fun σ H Q => ta σ H fun vs H1 => ∃ z : Str, vs = [.str z] ∧ z.length ≤ 1000 ∧ ∀ d, H1 d = none → Q (.ref C) (some d) (upd H1 d (.xd [(f, .str z)]))
/-- the class x at C makes such errors -/
def RaisesX (P : Program) (w : World) (K : PySem.W.Frag) (mg : Str → Option Value) (base : Heap) (x : Str) (C : Addr) (f : Str) (k : Nat) : Prop :=
  ∀ (X : Cx), X.prog = P → X.w = w → X.K = K → X.mg = mg → X.base = base → Room k X.A → ∀ (a : Expr) (ta : TA) (p pos : Pos), PA X [a] ta → Gl X x → starEach (a :: []) X.env = (false, eval a X.env) :: starEach [] X.env → (backTo pos (starEach [] X.env)).any (·.1) = false →
    PMk X (.Call (.Name x p) [a] [] pos) (tMkE C f ta)
/-- what the text has told of the terms' module -/
structure TerT (K : PySem.W.Frag) (mg : Str → Option Value) (C CB : Addr) : Prop where
  cl : Cls K C
  nK : NoAttr K C "kind"
  nP : NoAttr K C "parts"
  nD : NoAttr K C "depth"
  nS : NoAttr K C "size"
  mgC : mg "Process" = some (.ref C)
  kStr : PySem.W.kitOne K (.type "str") (.ref C) = some false
  kInt : PySem.W.kitOne K (.type "int") (.ref C) = some false
  kTup : PySem.W.kitOne K (.type "tuple") (.ref C) = some false
  ha : PySem.W.findIn K (.ref C) "__class__" = some (some (.builtin "object.__class__"))
  hn : PySem.W.specialIn K (.builtin "object.__class__") "__get__" = some (some (.builtin "getset_descriptor.__get__"))
  htk : PySem.W.takesIn K (.builtin "object.__class__") = some true
  hm : PySem.W.mroIn K C (.type "object") = some true
  sum : mg "sum" = none
  max : mg "max" = none
  tuple : mg "tuple" = none
  depth : GC mg "MOST_DEPTH" (.int 20)
  size : GC mg "MOST_SIZE" (.int 400)
theorem kOwn {K : PySem.W.Frag} {C : Addr} : PySem.W.kitOne K (.ref C) (.ref C) = some true := by
  unfold PySem.W.kitOne
  rw [if_pos (beq_self_eq_true _)]
/-- what is raised: the field f -/
def Bad (CB : Addr) (f : Str) (H : Hp) (E : XK) : Prop := ∀ (d : Addr) (H' : Hp), Ex H H' → H d = none → H' d = some (.xd [("field", .str f)]) → E (.ref CB) (some d) H'
theorem Bad.ex {CB : Addr} {f : Str} {H H' : Hp} {E : XK} (e : Ex H H') (h : Bad CB f H E) : Bad CB f H' E := fun d H2 e2 hd h2 => h d H2 (e.trans e2) (fresh_back e hd) h2
/-- demand(allowed, field) -/
def spDemand (CB : Addr) : Sp := fun vs H Q E => ∃ (b : Bool) (f : Str), vs = [.bl b, .str f] ∧ f.length ≤ 1000 ∧ (b = true → RetV .non H Q) ∧ (b = false → Bad CB f H E)
section
variable {P : Program} {w : World} {K : PySem.W.Frag} {mg : Str → Option Value} {base : Heap} {C CB : Addr}
theorem scDemand : FnScope ["allowed", "field"] ["allowed", "field"] (defScope (topS 35)) := ⟨rfl, rfl, rfl, by decide +kernel, rfl, by decide +kernel, by decide +kernel⟩
theorem ok_demand {f : Addr} {fd : FuncData} {k : Nat} (F : Fun K "demand" "demand" (topS 35) f fd) (R : RaisesX P w K mg base "BadTerm" CB "field" k) : FnOk P w K mg base (L2.CX P w) (k + 1) f fd ["allowed", "field"] (spDemand CB) := by
  refine F.okX scDemand (fun vs H Q E h => ?_) (fun cdv A outer s H vs Q E hr h => ?_)
  · obtain ⟨b, z, rfl, _⟩ := h
    rfl
  · obtain ⟨b, z, rfl, hz, k1, k2⟩ := h
    refine ⟨_, pss_one (ps_if (pt_not (pt_val (pv 0))) (pss_one (ps_raise (W := fun cls d _ H => E cls d H) rfl (takes_of rfl rfl rfl rfl) (R _ rfl rfl rfl rfl rfl hr _ _ _ _ (pa_cons (pv 1) pa_nil) (by rfl) (by rfl) (by rfl)))) pss_nil), ?_⟩
    refine s_if (et_not (et_B (ev_var rfl))) (fun hb H1 e1 => ?_) (fun hb H1 e1 => ?_)
    · have hb' : b = false := by simpa using hb
      refine ⟨_, rfl, z, rfl, hz, fun d hd => ?_⟩
      exact k2 hb' d _ (e1.trans (Ex.new hd)) (fresh_back e1 hd) upd_same
    · have hb' : b = true := by simpa using hb
      exact k1 hb' H1 e1
/-- demand(e, 'f') as a statement, what follows behind it -/
theorem q_demand {σ : L2.St} {H : Hp} {te : TE} {f : Str} {b : Bool} {E : L2.St → XK} {tz : TS} {D : Ends} (hf : f.length ≤ 1000) (h : Ev te σ H (.bl b)) (k1 : b = true → ∀ H1, Ex H H1 → tz D σ H1) (k2 : b = false → Bad CB f H (E σ)) :
    tSeq (tDrop (tCallS (spDemand CB) E (tCons te (tCons (tC (.str f)) tNil)))) tz D σ H :=
  h H (Ex.refl H) _ fun H1 e1 => ⟨b, f, rfl, hf, fun hb H2 e2 => k1 hb H2 (e1.trans e2), fun hb => (k2 hb).ex e1⟩
theorem s_demand {σ : L2.St} {H : Hp} {te : TE} {f : Str} {b : Bool} {E : L2.St → XK} {D : Ends} (hf : f.length ≤ 1000) (h : Ev te σ H (.bl b)) (k1 : b = true → ∀ H1, Ex H H1 → D.nx σ H1) (k2 : b = false → Bad CB f H (E σ)) :
    tDrop (tCallS (spDemand CB) E (tCons te (tCons (tC (.str f)) tNil))) D σ H :=
  h H (Ex.refl H) _ fun H1 e1 => ⟨b, f, rfl, hf, fun hb H2 e2 => k1 hb H2 (e1.trans e2), fun hb => (k2 hb).ex e1⟩
/-! ### what a process contains -/
theorem kNew : decide (V.str "new" = V.str "choice") = false := by decide +kernel
theorem kIf : decide (V.str "if" = V.str "choice") = false := by decide +kernel
theorem kCall : decide (V.str "call" = V.str "choice") = false := by decide +kernel
def spInner (C : Addr) : Sp := fun vs H Q _ => ∃ (p : Pr) (t : Addr) (ps rs : List V), vs = [.str p.kind, .ref t] ∧ H t = some (.tup ps) ∧ ps.length ≤ 100 ∧ InnOf C H ps rs p ∧ RetL rs H Q
theorem sp_inner {p : Pr} {t : Addr} {ps rs : List V} {H : Hp} (h1 : H t = some (.tup ps)) (h2 : ps.length ≤ 100) (h3 : InnOf C H ps rs p) : SpL (spInner C) [.str p.kind, .ref t] H rs := fun H1 e Q q E =>
  ⟨p, t, ps, rs, rfl, e _ _ h1, h2, h3.ex e, q⟩
theorem scInner : FnScope ["kind", "parts", "offer", "part"] ["kind", "parts"] (defScope (topS 36)) := ⟨rfl, rfl, rfl, by decide +kernel, rfl, by decide +kernel, by decide +kernel⟩
theorem tyx_pr (T : TerT K mg C CB) {H : Hp} {a : Addr} {p : Pr} (h : PrAt C H a p) : ∀ H1, Ex H H1 → TyX K H1 (.ref a) (.ref C) := fun H1 e => by
  obtain ⟨t, ps, ⟨dx, h1⟩, _⟩ := h.out
  exact .base (.ins (e _ _ h1) T.cl T.ha T.hn T.htk T.hm)
theorem tyx_opd (T : TerT K mg C CB) {H : Hp} (o : Opd) : ∃ t, (∀ H1, Ex H H1 → TyX K H1 o.v t) ∧ PySem.W.kitOne K t (.ref C) = some false := by
  cases o with
  | int i => exact ⟨_, fun _ _ => .base (.int i), T.kInt⟩
  | nm z => exact ⟨_, fun _ _ => .base (.str z), T.kStr⟩
theorem et_isPr {σ : L2.St} {H : Hp} {i : Nat} {x : V} {t : Value} {b : Bool} (hx : σ[i]? = some (some x)) (ht : ∀ H1, Ex H H1 → TyX K H1 x t) (hk : PySem.W.kitOne K t (.ref C) = some b) :
    EvT (L2.tB (tCB (rIsi K) (tCons (tVar i) (tCons (tC (.ref C)) tNil)))) σ H b := et_B (ev_cb (ea_cons (ev_var hx) (ea_cons ev_c ea_nil)) (rc_isiOwn ht hk))
theorem ok_inner {f : Addr} {fd : FuncData} (F : Fun K "inner_processes" "inner_processes" (topS 36) f fd) (B : BasT K mg) (T : TerT K mg C CB) : FnOk P w K mg base CX0 1 f fd ["kind", "parts"] (spInner C) := by
  refine F.ok scInner (fun vs H Q E h => ?_) (fun cdv A outer s H vs Q E hr h => ?_)
  · obtain ⟨p, t, ps, rs, rfl, _⟩ := h
    rfl
  · obtain ⟨p, t, ps, rs, rfl, ht, hl, hI, k⟩ := h
    refine ⟨_, pss_cons (ps_if (pt_cmpR op_eq (pv 0) pe_str (nomark _)) (pss_one (ps_ret (pe_lc (own := [("offer", 2)]) (g := gName 2) (tt := tYes) rfl scInner.nd (pi_tup (pv 1)) (blkOk_by (own := [("offer", 2)]) (N := ["kind", "parts", "offer", "part"]) (sc := defScope (topS 36)) (by decide +kernel))
          (fun _ _ _ _ _ => pg_name (i := 2) scInner.nd rfl (Or.inl rfl)) (fun _ _ _ _ _ => pts_nil) (fun _ _ _ _ _ => pe_ix (r := rIxT K) ix_tup (pv 2) (pe_un un_neg pe_int) (fun _ _ => rfl))))) pss_nil)
      (pss_one (ps_ret (pe_lc (own := [("part", 3)]) (g := gName 3) (tt := L2.tB (tCB (rIsi K) (tCons (tVar 3) (tCons (tC (.ref C)) tNil)))) rfl scInner.nd (pi_tup (pv 1)) (blkOk_by (own := [("part", 3)]) (N := ["kind", "parts", "offer", "part"]) (sc := defScope (topS 36)) (by decide +kernel))
          (fun _ _ _ _ _ => pg_name (i := 3) scInner.nd rfl (Or.inl rfl)) (fun _ _ _ _ _ => pts_one (pt_val (pe_callB (id := "isinstance") (r := rIsi K) call_isi (by rfl) B.isinst (by decide +kernel) (pa_cons (pv 3) (pa_cons (pe_glob (v := .ref C) (by rfl) T.mgC rfl) pa_nil))))) (fun _ _ _ _ _ => pv 3)))), ?_⟩
    cases p with
    | choice os =>
      refine q_if (b := true) (et_test (ev_op (ev_var rfl) ev_c (rv_eq rfl))) (fun _ H1 e1 => ?_) (fun q => nomatch q)
      obtain ⟨h1, h2, h3⟩ := hI.ex e1
      refine s_retL (el_lcTy (ev_var rfl) (st_of (e1 _ _ ht)) (by omega) (fun _ => rfl) h1 (fun i x y H2 e2 hx hy => ?_)) (fun q H2 hq e2 h2 => k q H2 (fresh_back e1 hq) (e1.trans e2) h2)
      obtain ⟨o, c, s, m, op, u, y', rfl, z2, z3⟩ := h3 i x hx
      have e : y' = y := by
        rw [hy] at z2
        exact (Option.some.inj z2).symm
      subst e
      exact ev_op (ev_var rfl) (ev_un ev_c ru_neg) (rv_ixT (st_of (e2 _ _ z3)) rfl)
    | new n kk r =>
      refine q_if (b := false) (et_is (et_test (ev_op (ev_var rfl) ev_c (rv_eq rfl))) kNew) (fun q => nomatch q) (fun _ H1 e1 => ?_)
      obtain ⟨b, rfl, rfl, hb⟩ := hI.ex e1
      refine s_retL (xs := [.ref b]) (el_lcT (fun i => decide (i = 2)) (fun i => .ref b) (ev_var rfl) (st_of (e1 _ _ ht)) (by show 3 ≤ 40000; decide) (fun _ => rfl) (fun i x H2 e2 hx => ?_) (fun i x H2 e2 hx hi => ?_)) (fun q H2 hq e2 h2 => k q H2 (fresh_back e1 hq) (e1.trans e2) h2)
      · match i, hx with
        | 0, hx => cases hx; exact et_isPr rfl (fun _ _ => .base (.str n)) T.kStr
        | 1, hx => cases hx; exact et_isPr rfl (fun _ _ => .base (.int kk)) T.kInt
        | 2, hx => cases hx; exact et_isPr rfl (tyx_pr T (hb.ex e2)) kOwn
      · match i, hx, hi with
        | 2, hx, _ => cases hx; exact ev_var rfl
    | cond l r y n =>
      refine q_if (b := false) (et_is (et_test (ev_op (ev_var rfl) ev_c (rv_eq rfl))) kIf) (fun q => nomatch q) (fun _ H1 e1 => ?_)
      obtain ⟨b, c, rfl, rfl, hb, hc⟩ := hI.ex e1
      refine s_retL (xs := [.ref b, .ref c]) (el_lcT (fun i => decide (2 ≤ i)) (fun i => if i = 2 then .ref b else .ref c) (ev_var rfl) (st_of (e1 _ _ ht)) (by show 4 ≤ 40000; decide) (fun _ => rfl) (fun i x H2 e2 hx => ?_) (fun i x H2 e2 hx hi => ?_)) (fun q H2 hq e2 h2 => k q H2 (fresh_back e1 hq) (e1.trans e2) h2)
      · match i, hx with
        | 0, hx => cases hx; obtain ⟨t, h1, h2⟩ := tyx_opd T l; exact et_isPr rfl h1 h2
        | 1, hx => cases hx; obtain ⟨t, h1, h2⟩ := tyx_opd T r; exact et_isPr rfl h1 h2
        | 2, hx => cases hx; exact et_isPr rfl (tyx_pr T (hb.ex e2)) kOwn
        | 3, hx => cases hx; exact et_isPr rfl (tyx_pr T (hc.ex e2)) kOwn
      · match i, hx, hi with
        | 2, hx, _ => cases hx; exact ev_var rfl
        | 3, hx, _ => cases hx; exact ev_var rfl
    | call n ops =>
      refine q_if (b := false) (et_is (et_test (ev_op (ev_var rfl) ev_c (rv_eq rfl))) kCall) (fun q => nomatch q) (fun _ H1 e1 => ?_)
      obtain ⟨u, rfl, rfl, hu⟩ := hI.ex e1
      refine s_retL (xs := []) (el_lcT (fun i => false) (fun i => .non) (ev_var rfl) (st_of (e1 _ _ ht)) (by show 2 ≤ 40000; decide) (fun _ => rfl) (fun i x H2 e2 hx => ?_) (fun i x H2 e2 hx hi => nomatch hi)) (fun q H2 hq e2 h2 => k q H2 (fresh_back e1 hq) (e1.trans e2) h2)
      match i, hx with
      | 0, hx => cases hx; exact et_isPr rfl (fun _ _ => .base (.str n)) T.kStr
      | 1, hx => cases hx; exact et_isPr rfl (fun H3 e3 => .base (.tup (e3 _ _ (e2 _ _ hu)))) T.kTup
end
end Fs

set_option Elab.async false
set_option linter.all false
set_option maxRecDepth 100000
set_option maxHeartbeats 2000000
namespace Fs
open PySem L2 Evl FsE FsC FsR
def spSize (C : Addr) (f : Pr → Int) : Sp := fun vs H Q _ => ∃ (p : Pr) (t : Addr) (ps : List V), vs = [.str p.kind, .ref t] ∧ H t = some (.tup ps) ∧ ps.length ≤ 100 ∧ PartsAt C H ps p ∧ RetV (.int (f p)) H Q
theorem sp_size {C : Addr} {f : Pr → Int} {p : Pr} {t : Addr} {ps : List V} {H : Hp} (h1 : H t = some (.tup ps)) (h2 : ps.length ≤ 100) (h3 : PartsAt C H ps p) : SpV (spSize C f) [.str p.kind, .ref t] H (.int (f p)) := fun H1 e Q q E =>
  ⟨p, t, ps, rfl, e _ _ h1, h2, h3.ex e, q⟩
theorem hu2_of {A : Around} {k : Nat} (hr : Room k A) : A.units + 1 + 1 < cLine := Nat.lt_of_le_of_lt (by omega : A.units + 1 + 1 ≤ A.units + 64) hr.units
theorem kCh : decide (V.str "choice" = V.str "choice") = true := by decide +kernel
section
variable {P : Program} {w : World} {K : PySem.W.Frag} {mg : Str → Option Value} {base : Heap} {C CB : Addr}
theorem InnOf.short {H : Hp} {ps rs : List V} {p : Pr} (h : InnOf C H ps rs p) (hl : ps.length ≤ 100) : rs.length ≤ 100 := by
  cases p with
  | choice os =>
    have := h.1
    omega
  | new n k r =>
    obtain ⟨b, _, rfl, _⟩ := h
    show 1 ≤ 100
    decide
  | cond l r y n =>
    obtain ⟨b, c, _, rfl, _⟩ := h
    show 2 ≤ 100
    decide
  | call n ops =>
    obtain ⟨u, _, rfl, _⟩ := h
    show 0 ≤ 100
    decide
/-- [process.f for process in (the list)] -/
theorem el_flds {σ : L2.St} {H : Hp} {tl : TE} {j : Nat} {vs : List Nat} {rs : List V} {ps : List Pr} {f : Str} {g : Pr → Int} (hf : ∀ {H : Hp} {a : Addr} {p : Pr}, PrAt C H a p → ∃ dx fs, H a = some (.ins C dx fs) ∧ fs.lookup f = some (.int (g p)))
    (cl : Cls K C) (n : NoAttr K C f) (h : EvL tl σ H rs) (hl : rs.length ≤ 100) (hi : InnAt C H rs ps) (hw : ∀ x, wipe ((wipe σ vs).set j (some x)) vs = wipe σ vs) (hj : ∀ x, ((wipe σ vs).set j (some x))[j]? = some (some x)) :
    EvL (tLc (iList K tl) (gName j) tYes (tFld K (tVar j) f) vs) σ H ((ps.map g).map V.int) := by
  refine el_lcNLy h (by omega) hw (by rw [List.length_map, List.length_map, hi.length]) (fun i x y H1 e hx hy => ?_)
  obtain ⟨a, p, rfl, hp, hps⟩ := InnAt.at_ (hi.ex e) hx
  obtain ⟨dx, fs, h1, h2⟩ := hf hp
  have ey : y = .int (g p) := by
    rw [List.getElem?_map, List.getElem?_map, hps] at hy
    exact (Option.some.inj hy).symm
  subst ey
  exact ev_fld (ev_var (hj _)) h1 cl n h2
theorem fld_depth {H : Hp} {a : Addr} {p : Pr} (h : PrAt C H a p) : ∃ dx fs, H a = some (.ins C dx fs) ∧ fs.lookup ("depth" : Str) = some (.int p.depth) := by
  obtain ⟨t, ps, ⟨dx, h1⟩, _⟩ := h.out
  exact ⟨dx, _, h1, pf_depth⟩
theorem fld_size {H : Hp} {a : Addr} {p : Pr} (h : PrAt C H a p) : ∃ dx fs, H a = some (.ins C dx fs) ∧ fs.lookup ("size" : Str) = some (.int p.size) := by
  obtain ⟨t, ps, ⟨dx, h1⟩, _⟩ := h.out
  exact ⟨dx, _, h1, pf_size⟩
theorem scDepth : FnScope ["kind", "parts", "process"] ["kind", "parts"] (defScope (topS 38)) := ⟨rfl, rfl, rfl, by decide +kernel, rfl, by decide +kernel, by decide +kernel⟩
theorem ok_depth {f : Addr} {fd : FuncData} (F : Fun K "depth_of" "depth_of" (topS 38) f fd) (T : TerT K mg C CB) (GI : CalX P w K mg base CX0 1 "inner_processes" (spInner C)) : FnOk P w K mg base CX0 2 f fd ["kind", "parts"] (spSize C Pr.depth) := by
  refine F.ok scDepth (fun vs H Q E h => ?_) (fun cdv A outer s H vs Q E hr h => ?_)
  · obtain ⟨p, t, ps, rfl, _⟩ := h
    rfl
  · obtain ⟨p, t, ps, rfl, ht, hl, hP, k⟩ := h
    obtain ⟨rs, hI⟩ := hP.inn
    refine ⟨_, pss_one (ps_ret (pe_op op_add pe_int (pe_callBK (ck_maxD rfl (hu2_of hr)) (by rfl) T.max (by decide +kernel) (pa_cons
      (pe_lc (own := [("process", 2)]) (g := gName 2) (tt := tYes) (te := tFld K (tVar 2) "depth") rfl scDepth.nd (pi_list (pe_cx (E := fun _ => E0) GI hr (by decide) (by rfl) at0 (pa_cons (pv 0) (pa_cons (pv 1) pa_nil)))) (blkOk_by (own := [("process", 2)]) (N := ["kind", "parts", "process"]) (sc := defScope (topS 38)) (by decide +kernel))
          (fun _ _ _ _ _ => pg_name (i := 2) scDepth.nd rfl (Or.inl rfl)) (fun _ _ _ _ _ => pts_nil) (fun _ _ _ _ _ => pe_fld (pv 2) rfl)) pa_nil) (pk_cons pe_int pk_nil)))), ?_⟩
    have g : Ev (tOp (rI0 fun i j => .int (i + j)) (tC (.int 1)) (tCKw (FsR.rMaxD K) (tCons (tLc (iList K (tCallS (spInner C) (fun _ => E0) (tCons (tVar 0) (tCons (tVar 1) tNil)))) (gName 2) tYes (tFld K (tVar 2) "depth") [2]) tNil) (tCons (tC (.int 0)) tNil)))
        (start ["kind", "parts", "process"] [.str p.kind, .ref t]) H (.int (1 + maxDef 0 (p.inner.map Pr.depth))) :=
      ev_op ev_c (ev_maxD (el_flds (fun h => fld_depth h) T.cl T.nD (el_cx (ea_cons (ev_var rfl) (ea_cons (ev_var rfl) ea_nil)) (sp_inner ht hl hI)) (hI.short hl) hI.at (fun _ => rfl) (fun _ => rfl))) rv_I0
    rw [Pr.depth_eq] at g
    exact s_ret g k
theorem scSize : FnScope ["kind", "parts", "own", "process"] ["kind", "parts"] (defScope (topS 37)) := ⟨rfl, rfl, rfl, by decide +kernel, rfl, by decide +kernel, by decide +kernel⟩
theorem own_eq {H : Hp} {ps : List V} {p : Pr} (h : PartsAt C H ps p) : p.own = if decide (V.str p.kind = V.str "choice") = true then (if ((ps.length : Nat) : Int) > 1 then ((ps.length : Nat) : Int) else 1) else 1 := by
  cases p with
  | choice os =>
    rw [if_pos (show decide (V.str (Pr.choice os).kind = V.str "choice") = true from kCh)]
    show max 1 (os.len : Int) = _
    rw [OfsAt.len h]
    by_cases q : ((os.len : Nat) : Int) > 1
    · rw [if_pos q]
      omega
    · rw [if_neg q]
      omega
  | new n k r =>
    rw [show decide (V.str (Pr.new n k r).kind = V.str "choice") = false from kNew]
    rfl
  | cond l r y n =>
    rw [show decide (V.str (Pr.cond l r y n).kind = V.str "choice") = false from kIf]
    rfl
  | call n ops =>
    rw [show decide (V.str (Pr.call n ops).kind = V.str "choice") = false from kCall]
    rfl
theorem ok_size {f : Addr} {fd : FuncData} (F : Fun K "size_of" "size_of" (topS 37) f fd) (B : BasT K mg) (T : TerT K mg C CB) (GI : CalX P w K mg base CX0 1 "inner_processes" (spInner C)) : FnOk P w K mg base CX0 2 f fd ["kind", "parts"] (spSize C Pr.size) := by
  refine F.ok scSize (fun vs H Q E h => ?_) (fun cdv A outer s H vs Q E hr h => ?_)
  · obtain ⟨p, t, ps, rfl, _⟩ := h
    rfl
  · obtain ⟨p, t, ps, rfl, ht, hl, hP, k⟩ := h
    obtain ⟨rs, hI⟩ := hP.inn
    refine ⟨_, pss_cons (ps_set (i := 2) scSize.nd rfl (Or.inl rfl) (pe_ifExp (pt_cmpR op_eq (pv 0) pe_str (nomark _)) (pe_callB (call_max2 rfl) (by rfl) T.max (by decide +kernel) (pa_cons pe_int (pa_cons (pe_callB call_len_seq (by rfl) B.len PySem.boot_len (pa_cons (pv 1) pa_nil)) pa_nil))) pe_int))
      (pss_one (ps_ret (pe_op op_add (pv 2) (pe_callB (cr_sum rfl) (by rfl) T.sum (by decide +kernel) (pa_cons
      (pe_lc (own := [("process", 3)]) (g := gName 3) (tt := tYes) (te := tFld K (tVar 3) "size") rfl scSize.nd (pi_list (pe_cx (E := fun _ => E0) GI hr (by decide) (by rfl) at0 (pa_cons (pv 0) (pa_cons (pv 1) pa_nil)))) (blkOk_by (own := [("process", 3)]) (N := ["kind", "parts", "own", "process"]) (sc := defScope (topS 37)) (by decide +kernel))
          (fun _ _ _ _ _ => pg_name (i := 3) scSize.nd rfl (Or.inl rfl)) (fun _ _ _ _ _ => pts_nil) (fun _ _ _ _ _ => pe_fld (pv 3) rfl)) pa_nil))))), ?_⟩
    refine q_asg (v := .int p.own) (ev_if (b := decide (V.str p.kind = V.str "choice")) (et_test (ev_op (ev_var rfl) ev_c (rv_eq rfl))) (fun hb => ?_) (fun hb => ?_)) (fun H1 e1 => ?_)
    · have q := ev_max2 (σ := start ["kind", "parts", "own", "process"] [.str p.kind, .ref t]) (H := H) (ta := tC (.int 1)) (i := 1) (j := ((ps.length : Nat) : Int)) ev_c (ev_lenT (K := K) (ta := tVar 1) (ev_var rfl) (st_of ht))
      rw [own_eq hP, if_pos hb]
      exact q
    · rw [own_eq hP, if_neg (by rw [hb]; decide)]
      exact ev_c
    · have g : Ev (tOp (rI0 fun i j => .int (i + j)) (tVar 2) (tCB (rSum K) (tCons (tLc (iList K (tCallS (spInner C) (fun _ => E0) (tCons (tVar 0) (tCons (tVar 1) tNil)))) (gName 3) tYes (tFld K (tVar 3) "size") [3]) tNil)))
          ((start ["kind", "parts", "own", "process"] [.str p.kind, .ref t]).set 2 (some (.int p.own))) H1 (.int (p.own + (p.inner.map Pr.size).sum)) :=
        ev_op (ev_var rfl) (ev_sum (el_flds (fun h => fld_size h) T.cl T.nS (el_cx (ea_cons (ev_var rfl) (ea_cons (ev_var rfl) ea_nil)) (sp_inner (e1 _ _ ht) hl (hI.ex e1))) (hI.short hl) (hI.at.ex e1) (fun _ => rfl) (fun _ => rfl))) rv_I0
      rw [Pr.size_eq] at g
      exact s_ret g (fun H2 e2 => k H2 (e1.trans e2))
end
end Fs

set_option Elab.async false
set_option linter.all false
set_option maxRecDepth 100000
set_option maxHeartbeats 2000000
namespace Fs
open PySem L2 Evl FsE FsC FsR
def badInit (p : Pr) : Option Str := if p.depth ≤ 20 then (if p.size ≤ 400 then none else some "size") else some "depth"
def spInit (C CB : Addr) : Sp := fun vs H Q E => ∃ (a dx : Addr) (p : Pr) (t : Addr) (ps : List V) (H0 : Hp), vs = [.ref a, .str p.kind, .ref t] ∧ H a = some (.ins C dx []) ∧ H0 a = none ∧ Ex H0 H ∧ H0 t = some (.tup ps) ∧ ps.length ≤ 100 ∧ PartsAt C H0 ps p ∧
  (badInit p = none → ∀ H', Ex H0 H' → H' a = some (.ins C dx (pFlds p.kind t p.depth p.size)) → Q .non H') ∧ (∀ f, badInit p = some f → Bad CB f H0 E)
section
variable {P : Program} {w : World} {K : PySem.W.Frag} {mg : Str → Option Value} {base : Heap} {C CB : Addr}
theorem q_fld {σ : L2.St} {H : Hp} {ta tv : TE} {a C dx : Addr} {fs : List (Str × V)} {f : Str} {v : V} {tz : TS} {D : Ends} (hv : Ev tv σ H v) (ho : Ev ta σ H (.ref a)) (hi : H a = some (.ins C dx fs)) (cl : Cls K C) (n : NoAttr K C f) (hl : fs.length < 1000)
    (k : ∀ H1, Ex H H1 → tz D σ (upd H1 a (.ins C dx (putF f v fs)))) : tSeq (sFld K ta tv f) tz D σ H :=
  hv H (Ex.refl H) _ fun H1 e1 => ho H1 e1 _ fun H2 e2 => ⟨a, C, dx, fs, rfl, (e1.trans e2) _ _ hi, cl, n, hl, k H2 (e1.trans e2)⟩
theorem scInit : FnScope ["self", "kind", "parts"] ["self", "kind", "parts"] (defScope (inClass (topS 39) 0)) := ⟨rfl, rfl, rfl, by decide +kernel, rfl, by decide +kernel, by decide +kernel⟩
theorem putF_len (f : Str) (v : V) : ∀ fs : List (Str × V), (putF f v fs).length ≤ fs.length + 1
  | [] => by
    show 1 ≤ 0 + 1
    decide
  | (g, x) :: fs => by
    have ih := putF_len f v fs
    show (if g = f then (g, v) :: fs else (g, x) :: putF f v fs).length ≤ _
    by_cases h : g = f
    · rw [if_pos h]
      simp
    · rw [if_neg h]
      simp only [List.length_cons]
      omega
theorem ok_init {f : Addr} {fd : FuncData} {k : Nat} (F : Fun K "__init__" "Process.__init__" (inClass (topS 39) 0) f fd) (T : TerT K mg C CB) (GD : CalX P w K mg base CX0 2 "depth_of" (spSize C Pr.depth)) (GS : CalX P w K mg base CX0 2 "size_of" (spSize C Pr.size))
    (GM : CalX P w K mg base (L2.CX P w) k "demand" (spDemand CB)) (hk : 2 ≤ k) : FnOk P w K mg base (L2.CX P w) (k + 1) f fd ["self", "kind", "parts"] (spInit C CB) := by
  refine F.okX scInit (fun vs H Q E h => ?_) (fun cdv A outer s H vs Q E hr h => ?_)
  · obtain ⟨a, dx, p, t, ps, H0, rfl, _⟩ := h
    rfl
  · obtain ⟨a, dx, p, t, ps, H0, rfl, ha, hna, e0, ht, hl, hP, k1, k2⟩ := h
    refine ⟨_, pss_cons (ps_fld (pv 0) (pv 1) rfl) (pss_cons (ps_fld (pv 0) (pv 2) rfl)
      (pss_cons (ps_fld (pv 0) (pe_cx (E := fun _ => E0) GD hr hk (by rfl) at0 (pa_cons (pv 1) (pa_cons (pv 2) pa_nil))) rfl)
      (pss_cons (ps_fld (pv 0) (pe_cx (E := fun _ => E0) GS hr hk (by rfl) at0 (pa_cons (pv 1) (pa_cons (pv 2) pa_nil))) rfl)
      (pss_cons (ps_expr (pe_cx (E := WE (fun cls d _ H => E cls d H)) GM hr (Nat.le_refl _) (by rfl) (fun σ => passAt (takes_of rfl rfl rfl rfl) σ) (pa_cons (pe_cmpR op_le (pe_fld (pv 0) rfl) (C8.pe_gc (by rfl) T.depth) (nomark _)) (pa_cons pe_str pa_nil))))
      (pss_one (ps_expr (pe_cx (E := WE (fun cls d _ H => E cls d H)) GM hr (Nat.le_refl _) (by rfl) (fun σ => passAt (takes_of rfl rfl rfl rfl) σ) (pa_cons (pe_cmpR op_le (pe_fld (pv 0) rfl) (C8.pe_gc (by rfl) T.size) (nomark _)) (pa_cons pe_str pa_nil))))))))), ?_⟩
    refine q_fld (ev_var rfl) (ev_var rfl) ha T.cl T.nK (by show 0 < 1000; decide) (fun H1 e1 => ?_)
    have x1 : Ex H0 (upd H1 a (.ins C dx (putF "kind" (.str p.kind) []))) := Ex.mut (e0.trans e1) hna
    refine q_fld (ev_var rfl) (ev_var rfl) upd_same T.cl T.nP (by have := putF_len "kind" (.str p.kind) []; simp only [List.length_nil] at this; omega) (fun H2 e2 => ?_)
    have x2 : Ex H0 (upd H2 a (.ins C dx (putF "parts" (.ref t) (putF "kind" (.str p.kind) [])))) := Ex.mut (x1.trans e2) hna
    refine q_fld (ev_cx (ea_cons (ev_var rfl) (ea_cons (ev_var rfl) ea_nil)) (sp_size (x2 _ _ ht) hl (hP.ex x2))) (ev_var rfl) upd_same T.cl T.nD (by have h1 := putF_len "kind" (.str p.kind) []; have h2 := putF_len "parts" (.ref t) (putF "kind" (.str p.kind) []); simp only [List.length_nil] at h1; omega) (fun H3 e3 => ?_)
    have x3 : Ex H0 (upd H3 a (.ins C dx (putF "depth" (.int p.depth) (putF "parts" (.ref t) (putF "kind" (.str p.kind) []))))) := Ex.mut (x2.trans e3) hna
    refine q_fld (ev_cx (ea_cons (ev_var rfl) (ea_cons (ev_var rfl) ea_nil)) (sp_size (x3 _ _ ht) hl (hP.ex x3))) (ev_var rfl) upd_same T.cl T.nS (by have h1 := putF_len "kind" (.str p.kind) []; have h2 := putF_len "parts" (.ref t) (putF "kind" (.str p.kind) []); have h3 := putF_len "depth" (.int p.depth) (putF "parts" (.ref t) (putF "kind" (.str p.kind) [])); simp only [List.length_nil] at h1; omega) (fun H4 e4 => ?_)
    have x4 : Ex H0 (upd H4 a (.ins C dx (pFlds p.kind t p.depth p.size))) := Ex.mut (x3.trans e4) hna
    have h4 : (upd H4 a (.ins C dx (pFlds p.kind t p.depth p.size))) a = some (.ins C dx (pFlds p.kind t p.depth p.size)) := upd_same
    refine q_demand (by decide +kernel) (ev_op (ev_fld (ev_var rfl) h4 T.cl T.nD pf_depth) ev_c rv_I0) (fun hb H5 e5 => ?_) (fun hb => ?_)
    · have hd : p.depth ≤ 20 := by simpa using hb
      refine s_demand (by decide +kernel) (ev_op (ev_fld (ev_var rfl) (e5 _ _ h4) T.cl T.nS pf_size) ev_c rv_I0) (fun hb2 H6 e6 => ?_) (fun hb2 => ?_)
      · have hs : p.size ≤ 400 := by simpa using hb2
        exact k1 (by unfold badInit; rw [if_pos hd, if_pos hs]) H6 ((x4.trans e5).trans e6) ((e5.trans e6) _ _ h4)
      · have hs : ¬ p.size ≤ 400 := by simpa using hb2
        exact (k2 "size" (by unfold badInit; rw [if_pos hd, if_neg hs])).ex (x4.trans e5)
    · have hd : ¬ p.depth ≤ 20 := by simpa using hb
      exact (k2 "depth" (by unfold badInit; rw [if_neg hd])).ex x4
/-- what a maker gives: the process, or the field that is refused -/
def Made (C CB : Addr) (o : Option Str) (p : Pr) (H : Hp) (Q : VK) (E : XK) : Prop :=
  (o = none → ∀ a H', H a = none → Ex H H' → PrAt C H' a p → Q (.ref a) H') ∧ (∀ f, o = some f → Bad CB f H E)
theorem Made.ex {o : Option Str} {p : Pr} {H H' : Hp} {Q : VK} {E : XK} (e : Ex H H') (h : Made C CB o p H Q E) : Made C CB o p H' Q E :=
  ⟨fun ho a H2 ha e2 hp => h.1 ho a H2 (fresh_back e ha) (e.trans e2) hp, fun f hf => (h.2 f hf).ex e⟩
/-- a tuple that holds the parts of p -/
def EvP (C : Addr) (tp : TE) (σ : L2.St) (H : Hp) (p : Pr) : Prop := ∀ H1, Ex H H1 → ∀ Q : VK, (∀ t H2 ps, H1 t = none → Ex H1 H2 → H2 t = some (.tup ps) → ps.length ≤ 100 → PartsAt C H2 ps p → Q (.ref t) H2) → tp σ H1 Q
theorem EvP.of {σ : L2.St} {H : Hp} {tp : TE} {p : Pr} {ps : List V} (h : EvU tp σ H ps) (hl : ps.length ≤ 100) (hP : PartsAt C H ps p) : EvP C tp σ H p := fun H1 e Q q => h H1 e Q fun t H2 ht e2 h2 => q t H2 ps ht e2 h2 hl (hP.ex (e.trans e2))
/-- Process(kind, parts) -/
theorem ret_make {σ : L2.St} {H : Hp} {tk tp : TE} {p : Pr} {D : Ends} {E : XK} (hkd : Ev tk σ H (.str p.kind)) (hp : EvP C tp σ H p) (m : Made C CB (badInit p) p H D.rt E) :
    tRet (tMake C (spInit C CB) [] E (tCons tk (tCons tp tNil))) D σ H :=
  hkd H (Ex.refl H) _ fun H1 e1 => hp H1 e1 _ fun t H2 ps ht e2 h2 hl hP => fun x dx hx hdx hne => by
    have x0 : Ex H2 (upd (upd H2 dx (.own x)) x (.ins C dx [])) := by
      intro b o hb
      rw [upd_ne (ne_of_none hb hx), upd_ne (ne_of_none hb hdx)]
      exact hb
    refine ⟨x, dx, p, t, ps, H2, rfl, upd_same, hx, x0, h2, hl, hP, fun hb H' e' h' => ⟨rfl, ?_⟩, fun f hf => ((m.2 f hf).ex (e1.trans e2))⟩
    exact m.1 hb x H' (fresh_back (e1.trans e2) hx) ((e1.trans e2).trans e') (PrAt.mk ⟨dx, h'⟩ (e' _ _ h2) (hP.ex e'))
end
end Fs

set_option Elab.async false
set_option linter.all false
set_option maxRecDepth 100000
set_option maxHeartbeats 4000000
/-! set(xs), xs a list or a tuple of texts: how many there are tells whether they all differ. -/
namespace FsT
open PySem PySem.Spec PyProof.Rows
/-- c of the first i texts differ; all of them just when none stands twice -/
structure Few (xs : List Str) (i c : Nat) : Prop where
  le : c ≤ i
  all : c = i ↔ (xs.take i).Nodup
theorem nodup_snoc {l : List Str} {z : Str} : (l ++ [z]).Nodup ↔ l.Nodup ∧ z ∉ l := by
  rw [List.nodup_append]
  constructor
  · intro h
    exact ⟨h.1, fun hz => h.2.2 z hz z (List.mem_singleton.mpr rfl) rfl⟩
  · intro h
    refine ⟨h.1, by simp, fun a ha b hb e => ?_⟩
    rw [List.mem_singleton.mp hb] at e
    exact h.2 (e ▸ ha)
theorem Few.step {xs : List Str} {i c : Nat} {z : Str} (f : Few xs i c) (hz : xs[i]? = some z) : Few xs (i + 1) (if decide (z ∈ xs.take i) = true then c else c + 1) := by
  have e : xs.take (i + 1) = xs.take i ++ [z] := by
    rw [List.take_add_one, hz]
    rfl
  have h1 := f.le
  have h2 := f.all
  by_cases h : z ∈ xs.take i
  · rw [if_pos (decide_eq_true h)]
    refine ⟨by omega, ⟨fun q => absurd q (by omega), fun q => ?_⟩⟩
    rw [e, nodup_snoc] at q
    exact absurd h q.2
  · rw [if_neg (by rw [decide_eq_false h]; decide)]
    refine ⟨by omega, ?_⟩
    rw [e, nodup_snoc]
    constructor
    · intro q
      exact ⟨h2.mp (by omega), h⟩
    · intro q
      have := h2.mpr q.1
      omega
section
variable {P : Program} {w : World} {A : Around} {R : Result → Shared → Prop} {I S : Addr} {fp wr : List Addr} {G : Array GenState → Array GenState → Prop} {n : Nat} {Pv : Nat → Value → Prop} {St : Nat → Shared → Prop}
/-- one text after the other into the set at S -/
theorem tx_loop (W : WalksS P w A.in1 I fp wr G n Pv St) (hS : S ∉ fp) {xs : List Str} (hn : n ≤ 2000) (hv : ∀ i v, Pv i v → ∃ z t, xs[i]? = some z ∧ v = .str z t) (R0 : ∀ s' c, Moved (S :: wr) G s0 s' → Few xs n c → s'.heap.SetOf (PySem.strKind P w) S (fun k => decide (k ∈ xs.take n)) c → R (.ok (.ret .none)) s') :
    ∀ (m i : Nat) (s : Shared), i + m = n → St i s → Moved (S :: wr) G s0 s → (∃ c, Few xs i c ∧ s.heap.SetOf (PySem.strKind P w) S (fun k => decide (k ∈ xs.take i)) c) → codeAny (model P w) A (.builtin "set.update.loop" ⟨[.ref S, .ref I], []⟩) R s := by
  have out : S ∉ wr := fun z => hS (W.sub _ z)
  have up : ∀ b ∈ wr, b ∈ S :: wr := fun b => List.mem_cons_of_mem _
  have stay : ∀ {u u' : Shared} {q : Str → Bool} {c : Nat}, Moved wr G u u' → u.heap.SetOf (PySem.strKind P w) S q c → u'.heap.SetOf (PySem.strKind P w) S q c := fun mv ⟨o, es, ep, t, ho, r⟩ => ⟨o, es, ep, t, mv.heap S o out ho, r⟩
  intro m
  induction m with
  | zero =>
    intro i s him hst mv0 ⟨c, fw, so⟩
    have hi : i = n := by omega
    subst hi
    refine codeAny_builtin PyProof.Rows.F.entry_set_update_loop ?_
    rw [Around.under_plainId F.plain_set_update_loop]
    show wpAny _ _ (pyNext (.ref I) >>= fun _ => _) _ _ s
    exact wpAny_bind (W.done s _ _ hst fun s' mv => wpAny_pure (R0 s' c (Moved.trans W.gtrans mv0 (mv.mono up)) fw (stay mv so)))
  | succ m ih =>
    intro i s him hst mv0 ⟨c, fw, so⟩
    refine codeAny_builtin PyProof.Rows.F.entry_set_update_loop ?_
    rw [Around.under_plainId F.plain_set_update_loop]
    show wpAny _ _ (pyNext (.ref I) >>= fun _ => _) _ _ s
    refine wpAny_bind (W.item i s _ _ (by omega) hst fun v s1 hp hst1 mv => ?_)
    obtain ⟨z, t, hz, rfl⟩ := hv i v hp
    show wpAny _ _ (holding [Value.str z t] (setAdd S (.str z t)) >>= fun _ => _) _ _ s1
    unfold setAdd
    refine wpAny_bind (wpAny_holding (wpAny_holding (wpAny_bind ((PySem.strKind P w).pyHash (strKind_is P w z t) ?_))))
    have c0 := fw.le
    have so1 := stay mv so
    refine wpAny_setAddHashed_of (s := { s1 with toks := s1.toks + 1 }) (strKind_is P w z t) rfl so1 (by show c + 1 < 4096; omega) fun h' but so2 => ?_
    have so3 : h'.SetOf (PySem.strKind P w) S (fun k => decide (k ∈ xs.take (i + 1))) (if decide (z ∈ xs.take i) = true then c else c + 1) := SetOf_congr so2 (fun k => by
      rw [List.take_add_one, hz]
      simp [List.mem_append]) rfl
    refine wpAny_pure ⟨plainId_quiet F.plain_set_update_loop _, ih (i + 1) _ (by omega) (W.frame (i + 1) s1 h' _ hst1 (Nat.le_succ _) fun b hb o ho => ?_) ?_ ⟨_, fw.step hz, so3⟩⟩
    · exact (but.2 b fun z => hS (z ▸ hb)).trans ho
    · refine Moved.trans W.gtrans mv0 ((mv.mono up).then_heap (Nat.le_succ _) fun b o hb ho => ?_)
      exact (but.2 b fun z => hb (z ▸ List.mem_cons_self ..)).trans ho
end
section
variable {P : Program} {w : World} {A : Around} {E : Value → Shared → Prop} {s : Shared}
/-- what set() reads: a list, a tuple -/
structure Feed (P : Program) (w : World) (T iT : String) (items : Array Value) (nl : Nat) (od : Option Addr) (sl : Array (Option Value)) (l : Addr) : Prop where
  s1 : isSubtype (Value.type T) (Value.type "set") = pure false
  s2 : isSubtype (Value.type T) (Value.type "frozenset") = pure false
  nd : (Value.type T == Value.type "dict") = false
  it : ∀ (A' : Around) (E' : Value → Shared → Prop) (u : Shared) (Q' : Value → Shared → Prop), u.heap.get? l = some { cls := .type T, dict := od, data := .seq items nl, slots := sl } →
    Q' (.ref u.heap.objs.size) { u with heap := u.heap.push { cls := .type iT, data := .fields #[.ref l, .int 0 0] } } → wpAny (model P w) A' (pyIter (.ref l)) Q' E' u
  wk : ∀ (A' : Around) (I : Addr), A'.handled = none → l ≠ I → ∃ St : Nat → Shared → Prop, WalksS P w A' I [I, l] [I] (fun a b => b = a) items.size (fun i v => items[i]? = some v) St ∧
    ∀ u : Shared, u.heap.get? I = some { cls := .type iT, data := .fields #[.ref l, .int 0 0] } → u.heap.get? l = some { cls := .type T, dict := od, data := .seq items nl, slots := sl } → St 0 u
theorem feed_list {items : Array Value} {nl : Nat} {od : Option Addr} {sl : Array (Option Value)} {l : Addr} : Feed P w "list" "list_iterator" items nl od sl l :=
  ⟨PySem.F.sub_list_set, PySem.F.sub_list_frozenset, by decide, fun _ _ _ _ h q => wpAny_pyIter_list ⟨_, h, rfl, nl, rfl⟩ q, fun A' I ha ne => ⟨_, (Walks.list ha I l ne items).toS, fun u h1 h2 => ⟨⟨_, h1, rfl, rfl⟩, ⟨_, h2, rfl, nl, rfl⟩⟩⟩⟩
theorem feed_tup {items : Array Value} {nl : Nat} {od : Option Addr} {sl : Array (Option Value)} {l : Addr} : Feed P w "tuple" "tuple_iterator" items nl od sl l :=
  ⟨PySem.F.sub_tuple_set, PySem.F.sub_tuple_frozenset, by decide, fun _ _ _ _ h q => wpAny_pyIter_tuple ⟨_, h, rfl, nl, rfl⟩ q, fun A' I ha ne => ⟨_, (Walks.tuple ha I l ne items).toS, fun u h1 h2 => ⟨⟨_, h1, rfl, rfl⟩, ⟨_, h2, rfl, nl, rfl⟩⟩⟩⟩
/-- set(l) -/
theorem tx_call {T iT : String} {items : Array Value} {nl : Nat} {od : Option Addr} {sl : Array (Option Value)} {l : Addr} {xs : List Str} {Q : Value → Shared → Prop} (D : Feed P w T iT items nl od sl l) (ha : A.handled = none)
    (ho : s.heap.get? l = some { cls := .type T, dict := od, data := .seq items nl, slots := sl }) (hx : StrsAre items.toList xs) (hl : xs.length ≤ 2000)
    (hq : ∀ h' tk c, Few xs xs.length c → h'.SetOf (PySem.strKind P w) s.heap.objs.size (fun k => decide (k ∈ xs)) c → (∀ b o, s.heap.get? b = some o → h'.get? b = some o) → Q (.ref s.heap.objs.size) { s with heap := h', toks := tk }) :
    wpAny (model P w) A (call (.type "set") [.ref l]) Q E s := by
  have cs := PySem.F.called_set
  obtain ⟨cc, rest, mro0⟩ := cs.mro
  have made0 := cs.made
  have sub0 := cs.sub
  refine wpAny_call (codeAny_of_tree ?_)
  show wpAny _ _ (callAny (.type "set") { pos := [.ref l] }) _ _ _
  refine wpAny_pure ⟨Code.quiet_builtin _ (by decide +kernel), codeAny_builtin PySem.F.entry_type_call ?_⟩
  rw [Around.under_plain (weight_type_call_type "set" [Value.ref l] []) rfl]
  have nt0 := cs.notType
  have cr0 := cs.canCreate
  have tc0 := PySem.F.typeCall_set_1 (Value.ref l)
  repeat (any_goals (first | assumption | wp_step))
  refine codeAny_mono (code_set_new_1 (Value.ref l) (E := E) (Q₁ := fun v u => ∃ b : Bool, v = .ref s.heap.objs.size ∧ u = { s with heap := s.heap.push { cls := .type "set", data := .set #[] 0 (.fresh 0 0 b) } }) (fun b => ⟨b, rfl, rfl⟩)) (fun r u hr => ?_)
  match r, hr with
  | .error _, hr => exact hr
  | .ok .next, hr => exact hr.elim
  | .ok .brk, hr => exact hr.elim
  | .ok .cont, hr => exact hr.elim
  | .ok (.ret v), hr =>
    obtain ⟨b, rfl, rfl⟩ := hr
    have at0 : (s.heap.push { cls := .type "set", data := .set #[] 0 (.fresh 0 0 b) }).get? s.heap.objs.size = some { cls := .type "set", data := .set #[] 0 (.fresh 0 0 b) } := Heap.get?_push_size _ rfl
    have ty0 : Shared.TypeIs { s with heap := s.heap.push { cls := .type "set", data := .set #[] 0 (.fresh 0 0 b) } } (.ref s.heap.objs.size) "set" := ⟨_, at0, rfl⟩
    have look0 := cs.init.lookup
    have bind0 := cs.init.bind (.ref s.heap.objs.size)
    repeat (any_goals (first | assumption | wp_step))
    refine codeAny_mono (codeAny_call_builtin (R := wants (fun v u => v = .none ∧ ∃ h' tk c, u = { s with heap := h', toks := tk } ∧ Few xs xs.length c ∧ h'.SetOf (PySem.strKind P w) s.heap.objs.size (fun k => decide (k ∈ xs)) c ∧ ∀ b o, s.heap.get? b = some o → h'.get? b = some o) E)
      cs.init.plain PySem.F.entry_set_init (check_set_init_1 ty0 ?_)) (fun r2 u2 hr2 => ?_)
    · have ho1 : (s.heap.push { cls := .type "set", data := .set #[] 0 (.fresh 0 0 b) }).get? l = some { cls := .type T, dict := od, data := .seq items nl, slots := sl } := Heap.get?_push_of_some _ ho
      have d1 := D.s1
      have d2 := D.s2
      have d3 := D.nd
      unfold Builtin.«set.__init__» noKeywords Builtin.Frozenset.updateFrom
      generalize hI : pyIter = IT
      wp_walk
      subst hI
      have nx : items.size = xs.length := by
        have e := StrsAre.len_eq hx
        rw [Array.length_toList] at e
        exact e
      have ls : l < s.heap.objs.size := Heap.lt_size ho
      have sz1 : (s.heap.push { cls := .type "set", data := .set #[] 0 (.fresh 0 0 b) }).objs.size = s.heap.objs.size + 1 := Heap.size_push ..
      have n1 : l ≠ s.heap.objs.size + 1 := Nat.ne_of_lt (Nat.lt_succ_of_lt ls)
      have n2 : s.heap.objs.size ≠ s.heap.objs.size + 1 := Nat.ne_of_lt (Nat.lt_succ_self _)
      have n3 : s.heap.objs.size ≠ l := (Nat.ne_of_lt ls).symm
      refine D.it _ _ _ _ ho1 (wpAny_bind (wpAny_runValue ?_))
      have at1 : ((s.heap.push { cls := .type "set", data := .set #[] 0 (.fresh 0 0 b) }).push { cls := .type iT, data := .fields #[.ref l, .int 0 0] }).get? s.heap.objs.size = some { cls := .type "set", data := .set #[] 0 (.fresh 0 0 b) } := Heap.get?_push_of_some _ at0
      obtain ⟨St, wk, st0⟩ := D.wk A.in1.in1.in1 (s.heap.push { cls := .type "set", data := .set #[] 0 (.fresh 0 0 b) }).objs.size (by simp [ha]) (by rw [sz1]; exact n1)
      refine tx_loop (s0 := { s with heap := (s.heap.push { cls := .type "set", data := .set #[] 0 (.fresh 0 0 b) }).push { cls := .type iT, data := .fields #[.ref l, .int 0 0] } }) wk (by
          simp only [List.mem_cons, List.not_mem_nil, or_false, not_or]
          exact ⟨by rw [sz1]; exact n2, n3⟩) (xs := xs) (by omega) (fun i v hv => ?_) (fun u c mv fw so => ?_) items.size 0 _ (Nat.zero_add _) (st0 _ (Heap.get?_push_size _ rfl) (Heap.get?_push_of_some _ ho1)) ⟨fun _ _ _ e => e, rfl, rfl, rfl, Nat.le_refl _⟩
        ⟨0, ⟨Nat.le_refl _, by simp⟩, SetOf_congr ((setObjOf_fresh (knd := PySem.strKind P w) b).setOf at1 (by show 0 < 4096; decide)) (fun k => by simp) rfl⟩
      · obtain ⟨t, e⟩ := SS.strs_at hx i v (by rw [Array.getElem?_toList]; exact hv)
        have hi : i < xs.length := by
          rw [← nx]
          exact (Array.getElem?_eq_some_iff.mp hv).1
        exact ⟨xs[i], t, List.getElem?_eq_getElem hi, by rw [e, List.getD_eq_getElem?_getD, List.getElem?_eq_getElem hi]; rfl⟩
      · obtain ⟨h2, g2, d2, t2, o2⟩ := u
        obtain rfl : g2 = s.gens := mv.gens
        obtain rfl : d2 = s.drawn := mv.drawn
        obtain rfl : o2 = s.os := mv.os
        rw [nx] at fw so
        rw [List.take_length] at so
        refine wpAny_pure ?_
        show wpAny _ _ (ret Value.none) _ _ _
        refine wpAny_pure ⟨rfl, h2, t2, c, rfl, fw, so, fun d o e => ?_⟩
        have dl : d < s.heap.objs.size := Heap.lt_size e
        exact mv.heap d o (by
          simp only [List.mem_cons, List.not_mem_nil, or_false, not_or]
          exact ⟨Nat.ne_of_lt dl, by rw [sz1]; exact Nat.ne_of_lt (Nat.lt_succ_of_lt dl)⟩) (Heap.get?_push_of_some _ (Heap.get?_push_of_some _ e))
    · match r2, hr2 with
      | .error _, hr2 => exact hr2
      | .ok .next, hr2 => exact hr2.elim
      | .ok .brk, hr2 => exact hr2.elim
      | .ok .cont, hr2 => exact hr2.elim
      | .ok (.ret v), hr2 =>
        obtain ⟨rfl, h', tk, c, rfl, fw, so, kp⟩ := hr2
        repeat (any_goals (first | assumption | wp_step))
        exact hq h' tk c fw so kp
end
end FsT

set_option Elab.async false
set_option linter.all false
set_option maxRecDepth 100000
set_option maxHeartbeats 2000000
namespace FsR
open PySem PySem.Spec PyProof.Rows L2 FsT
/-- len(set(xs)), xs a list or a tuple of texts -/
def tLenTx (K : PySem.W.Frag) (ta : TE) : TE := fun σ H Q => ta σ H fun x H1 => ∃ (l : Addr) (xs : List Str), x = .ref l ∧ (SqL K H1 l (xs.map V.str) ∨ SqT K H1 l (xs.map V.str)) ∧ xs.length ≤ 2000 ∧ ∀ c, Few xs xs.length c → Q (.int (c : Nat)) H1
theorem pe_lenTx {X : Cx} {a : Expr} {ta : TE} {p p2 q pos : Pos} (hc : X.calm = true) (hg : Gl X "len") (hm : X.mg "len" = none) (hg2 : Gl X "set") (hm2 : X.mg "set" = none) (ha : PE X a ta)
    (na : starEach [a] X.env = (false, eval a X.env) :: starEach [] X.env := by rfl) : PE X (.Call (.Name "len" p) [.Call (.Name "set" p2) [a] [] q] [] pos) (tLenTx X.K ta) := by
  refine ⟨fun pins s σ H Q I h => Call_ (ld_blt I hg hm PySem.boot_len (callWith_builtin1 (args_cons (Call_ (ld_blt I hg2 hm2 boot_set (callWith_type1 (args_cons (thn (ha.run pins s σ H _ I h) fun v u ⟨x, H1, J, rx, l, xs, ex, hq, hl, k⟩ => args_nil ?_) na) na rfl))) rfl) rfl rfl))⟩
  subst ex
  obtain rfl : v = Value.ref l := rx
  have fin : ∀ (h' : Heap) (tk c : Nat), Few xs xs.length c → h'.SetOf (PySem.strKind X.prog X.w) u.heap.objs.size (fun k => decide (k ∈ xs)) c → (∀ b o, u.heap.get? b = some o → h'.get? b = some o) →
      wpAny (model X.prog X.w) X.A (spliced (backTo pos (starEach [] X.env))) (fun vs u2 => wpAny (model X.prog X.w) X.A (call (.builtin "len") (Value.ref u.heap.objs.size :: vs)) (EP X pins σ Q) X.xe u2) X.xe { u with heap := h', toks := tk } := fun h' tk c fw so kp => by
    refine args_nil ?_
    obtain ⟨o, es, ep, t, ho, hex, hd, _, _, hsm, hf, hn⟩ := so
    have J2 : Inv X pins σ H1 { u with heap := h', toks := tk } := J.kept kp
    have c0 := fw.le
    refine call_len_set ho hex hd hf (by rw [hn]; omega) ⟨.int (c : Nat), H1, J2.tok _, ⟨_, by rw [hn]⟩, k c fw⟩
  rcases hq with hq | hq
  · obtain ⟨its, r, pl, hz⟩ := J.list hq
    obtain ⟨⟨oc, od, dt, sl⟩, ho, e1, n, e2⟩ := pl.isList
    dsimp only at e1 e2
    subst e1 e2
    exact tx_call feed_list (J.ok.hd hc) ho (by simpa using strsAre_of r) hl fin
  · obtain ⟨its, r, ⟨⟨oc, od, dt, sl⟩, ho, e1, n, e2⟩, hz⟩ := J.tuple hq
    dsimp only at e1 e2
    subst e1 e2
    exact tx_call feed_tup (J.ok.hd hc) ho (by simpa using strsAre_of r) hl fin
end FsR

set_option Elab.async false
set_option linter.all false
set_option maxRecDepth 100000
set_option maxHeartbeats 2000000
namespace Fs
open PySem L2 Evl FsE FsC FsR FsT
def namesS (ns : List Str) : Bool := (ns.map nameS).all id && decide ns.Nodup
/-- names, in a list or a tuple -/
def NmsAt (H : Hp) (u : Addr) (ns : List Str) : Prop := H u = some (.lst (ns.map V.str)) ∨ H u = some (.tup (ns.map V.str))
theorem NmsAt.ex {H H' : Hp} {u : Addr} {ns : List Str} (e : Ex H H') (h : NmsAt H u ns) : NmsAt H' u ns := h.imp (e _ _) (e _ _)
theorem NmsAt.sq {K : PySem.W.Frag} {H : Hp} {u : Addr} {ns : List Str} (h : NmsAt H u ns) : SqL K H u (ns.map V.str) ∨ SqT K H u (ns.map V.str) := h.imp sq_of st_of
def spNames : Sp := fun vs H Q _ => ∃ (u : Addr) (ns : List Str), vs = [.ref u] ∧ NmsAt H u ns ∧ ns.length ≤ 90 ∧ (∀ z ∈ ns, z.length ≤ 40000) ∧ RetV (.bl (namesS ns)) H Q
section
variable {P : Program} {w : World} {K : PySem.W.Frag} {mg : Str → Option Value} {base : Heap} {C CB : Addr}
/-- len(set(xs)) == n, n the length of xs -/
theorem ev_differ {σ : L2.St} {H : Hp} {ta tb : TE} {u : Addr} {ns : List Str} (h : Ev ta σ H (.ref u)) (hu : NmsAt H u ns) (hl : ns.length ≤ 90) (hb : Ev tb σ H (.int ((ns.length : Nat) : Int))) : Ev (tOp rEq (tLenTx K ta) tb) σ H (.bl (decide ns.Nodup)) := fun H1 e Q q =>
  h H1 e _ fun H2 e2 => ⟨u, ns, rfl, (hu.ex (e.trans e2)).sq, by omega, fun c fw => hb H2 (e.trans e2) _ fun H3 e3 => rv_eq (x := .int (c : Nat)) (y := .int ((ns.length : Nat) : Int)) rfl H3 (Ex.refl H3) _ fun H4 e4 => by
    have a := fw.all
    rw [List.take_length] at a
    have b : decide (V.int ((c : Nat) : Int) = V.int ((ns.length : Nat) : Int)) = decide ns.Nodup := by
      by_cases hn : ns.Nodup
      · rw [decide_eq_true hn, a.mpr hn]
        exact decide_eq_true rfl
      · rw [decide_eq_false hn]
        refine decide_eq_false fun z => hn (a.mp ?_)
        injection z with z
        omega
    rw [b]
    exact q H4 ((e2.trans e3).trans e4)⟩
theorem nms_at {ns : List Str} {i : Nat} {x y : V} (hz : ∀ z ∈ ns, z.length ≤ 40000) (hx : (ns.map V.str)[i]? = some x) (hy : ((ns.map nameS).map V.bl)[i]? = some y) : OpV x ∧ y = .bl (nameV x) := by
  rw [List.map_map, List.getElem?_map] at hy
  rw [List.getElem?_map] at hx
  cases hq : ns[i]? with
  | none =>
    rw [hq] at hx
    cases hx
  | some z =>
    rw [hq] at hx hy
    have ex : V.str z = x := Option.some.inj hx
    have ey : V.bl (nameS z) = y := Option.some.inj hy
    subst ex
    exact ⟨hz z (List.mem_of_getElem? hq), ey.symm⟩
theorem scNames : FnScope ["texts", "text"] ["texts"] (defScope (topS 9)) := ⟨rfl, rfl, rfl, by decide +kernel, rfl, by decide +kernel, by decide +kernel⟩
theorem ok_are_names {f : Addr} {fd : FuncData} (F : Fun K "are_names" "are_names" (topS 9) f fd) (B : BasT K mg) (hset : mg "set" = none) (GN : CalX P w K mg base CX0 1 "is_name" (spPred nameV)) : FnOk P w K mg base CX0 2 f fd ["texts"] spNames := by
  refine F.ok scNames (fun vs H Q E h => ?_) (fun cdv A outer s H vs Q E hr h => ?_)
  · obtain ⟨u, ns, rfl, _⟩ := h
    rfl
  · obtain ⟨u, ns, rfl, hu, hl, hz, q⟩ := h
    have hlen : (ns.map V.str).length ≤ 40000 := by rw [List.length_map]; omega
    have hlen2 : ((ns.map nameS).map V.bl).length = (ns.map V.str).length := by simp
    have hbs : (((ns.map V.str).length : Nat) : Int) = ((ns.length : Nat) : Int) := by rw [List.length_map]
    have each : ∀ {σ : L2.St} {H2 : Hp} {i : Nat} {x y : V}, (ns.map V.str)[i]? = some x → ((ns.map nameS).map V.bl)[i]? = some y → σ[1]? = some (some x) → Ev (tCallS (spPred nameV) (fun _ => E0) (tCons (tVar 1) tNil)) σ H2 y := fun hx hy hv => by
      obtain ⟨a1, a2⟩ := nms_at hz hx hy
      rw [a2]
      exact ev_cx (ea_cons (ev_var hv) ea_nil) (sp_pred a1)
    rcases id hu with hu1 | hu1
    · refine ⟨_, pss_one (ps_ret (pe_and (pe_callB (cr_all rfl) (by rfl) B.all (by decide +kernel) (pa_cons
          (pe_lc (own := [("text", 1)]) (g := gName 1) (tt := tYes) (te := tCallS (spPred nameV) (fun _ => E0) (tCons (tVar 1) tNil)) rfl scNames.nd (pi_list (pv 0)) (blkOk_by (own := [("text", 1)]) (N := ["texts", "text"]) (sc := defScope (topS 9)) (by decide +kernel))
            (fun _ _ _ _ _ => pg_name (i := 1) scNames.nd rfl (Or.inl rfl)) (fun _ _ _ _ _ => pts_nil) (fun _ _ _ _ _ => pe_cx (E := fun _ => E0) GN hr (by decide) (by rfl) at0 (pa_cons (pv 1) pa_nil))) pa_nil))
          (pe_one (pe_cmpR op_eq (pe_lenTx rfl (by rfl) B.len (by rfl) hset (pv 0)) (pe_callB call_len_seq (by rfl) B.len PySem.boot_len (pa_cons (pv 0) pa_nil)) (nomark _))))), ?_⟩
      refine s_ret (v := .bl (namesS ns)) (ev_andV (ev_all (bs := ns.map nameS) (el_lcLy (ev_var rfl) (sq_of hu1) hlen (fun _ => rfl) hlen2 (fun i x y H2 e2 hx hy => each hx hy rfl)))
        (fun _ => ev_differ (ev_var rfl) hu hl (ev_is (ev_cb (ea_cons (ev_var rfl) ea_nil) (fun H2 e2 Q' q' => ⟨u, _, rfl, .inl (sq_of (e2 _ _ hu1)), q' H2 (Ex.refl H2)⟩)) (by rw [hbs])))) q
    · refine ⟨_, pss_one (ps_ret (pe_and (pe_callB (cr_all rfl) (by rfl) B.all (by decide +kernel) (pa_cons
          (pe_lc (own := [("text", 1)]) (g := gName 1) (tt := tYes) (te := tCallS (spPred nameV) (fun _ => E0) (tCons (tVar 1) tNil)) rfl scNames.nd (pi_tup (pv 0)) (blkOk_by (own := [("text", 1)]) (N := ["texts", "text"]) (sc := defScope (topS 9)) (by decide +kernel))
            (fun _ _ _ _ _ => pg_name (i := 1) scNames.nd rfl (Or.inl rfl)) (fun _ _ _ _ _ => pts_nil) (fun _ _ _ _ _ => pe_cx (E := fun _ => E0) GN hr (by decide) (by rfl) at0 (pa_cons (pv 1) pa_nil))) pa_nil))
          (pe_one (pe_cmpR op_eq (pe_lenTx rfl (by rfl) B.len (by rfl) hset (pv 0)) (pe_callB call_len_seq (by rfl) B.len PySem.boot_len (pa_cons (pv 0) pa_nil)) (nomark _))))), ?_⟩
      refine s_ret (v := .bl (namesS ns)) (ev_andV (ev_all (bs := ns.map nameS) (el_lcTy (ev_var rfl) (st_of hu1) hlen (fun _ => rfl) hlen2 (fun i x y H2 e2 hx hy => each hx hy rfl)))
        (fun _ => ev_differ (ev_var rfl) hu hl (ev_is (ev_cb (ea_cons (ev_var rfl) ea_nil) (fun H2 e2 Q' q' => ⟨u, _, rfl, .inr (st_of (e2 _ _ hu1)), q' H2 (Ex.refl H2)⟩)) (by rw [hbs])))) q
end
end Fs

set_option Elab.async false
set_option linter.all false
set_option maxRecDepth 100000
set_option maxHeartbeats 4000000
/-! An own error over ValueError, by a class between: its __init__ calls super().__init__ with a fixed text, then stores its one argument as the field field. -/
namespace FsB
open PySem PySem.W PySem.Calls PyProof.Rows PySem.HandSPX
abbrev eS : Scope := { kind := .function, names := [(PySem.Str.ofString "self", .local), (PySem.Str.ofString "field", .local), (PySem.Str.ofString "__class__", .free), (PySem.Str.ofString "super", .globalImplicit)], isGenerator := false, isCoroutine := false, more := [] }
abbrev eA (p1 p2 : Pos) : Arguments := { posonlyargs := [], args := [{ arg := "self", annotation := none, pos := p1 }, { arg := "field", annotation := none, pos := p2 }], vararg := none, kwonlyargs := [], kw_defaults := [], kwarg := none, defaults := [] }
abbrev eB (msg : Expr) (p0 p1 p2 p3 p4 p5 p6 p7 p8 : Pos) : List Stmt := [.Expr (.Call (.Attribute (.Call (.Name "super" p0) [] [] p1) "__init__" p2) [msg] [] p3) p4, .Assign [.Attribute (.Name "self" p5) "field" p6] (.Name "field" p7) p8]
/-- the message -/
abbrev eM (z : Str) (q0 : Pos) : Expr := .Constant (.str z) 0 q0
abbrev mroVE : List Value := [.type "ValueError", .type "Exception", .type "BaseException", .type "object"]
/-- what the written part says of the class at C, and of its __init__, at fI -/
structure ErrTxt (prog : Program) (K : Frag) (mg : Str → Option Value) (x : Str) (C fI : Addr) : Prop where
  gC : mg x = some (.ref C)
  cls : ∃ nm q N bs bm sn sub ab col dd k0 k1 k2 k3 k5, K.lookup C = some (excClassObj nm q C N bs bm true sn sub ab col dd k0 k1 k2 k3 k5 "ValueError.__new__") ∧ refsVE bm = true
  ei : excInitIn K C mroVE "ValueError.__new__" = true
  sa : findIn K (.ref C) "__setattr__" = some (some (.builtin "object.__setattr__"))
  noN : findIn K (.ref C) "field" = some none
  iC : findIn K (.ref C) "__init__" = some (some (.ref fI))
  tC : typeIn K (.ref fI) = some (.type "function")
  kC : keepIn K (.ref C) = true
  exC : subIn K (.ref C) (.type "BaseException") = some true
  veC : subIn K (.ref C) (.type "ValueError") = some true
  tyC : typeIn K (.ref C) = some (.type "type")
  slf : mroIn K C (.ref C) = some true
  sup : ks_superIn K C C "__init__" = some (some (.builtin "ValueError.__init__"))
  opq : nsIn K cStatics "thirdparty.any" = some none
  gs : mg "super" = none
  top : (prog.main.scope.names.lookup ("super" : Str)).isSome = false
  fn : ∃ (oc : Value) (od an : Option Addr) (kV doc pm ct : Value) (osl : Array (Option Value)) (qual : Str) (cda cc : Addr) (ccl cl : Value) (cdd cld : Option Addr) (ccs csl : Array (Option Value)) (vs : Array Value) (file : Str) (tf : Tok) (zM : Str) (p1 p2 q0 r0 r1 r2 r3 r4 r5 r6 r7 r8 : Pos),
    K.lookup fI = some ⟨oc, od, .func (ksFn "__init__" qual (eA p1 p2) (eB (eM zM q0) r0 r1 r2 r3 r4 r5 r6 r7 r8) eS .none kV doc pm an (.ref cda) ct cc), osl⟩ ∧ codeIn K (.ref cda) qual = true ∧
    K.lookup cda = some ⟨ccl, cdd, .fields vs, ccs⟩ ∧ vs[2]? = some (.str file tf) ∧ ((prog.main.file : Str) == file) = true ∧ K.lookup cc = some ⟨cl, cld, .cell (some (.ref C)), csl⟩ ∧ zM.length ≤ 1000 ∧ (r2.endLine == r3.line) = true
theorem call_line {o : Expr} {name : Str} {apos pos : Pos} {a : Expr} {env : Env} (hp : (apos.endLine == pos.line) = true) (hs : starEach [a] env = (false, eval a env) :: starEach [] env) : eval (.Call (.Attribute o name apos) [a] [] pos) env = (do
      let ov ← attributeBase o name env (eval o env)
      standAt apos.atName
      let (f, first) ← holding [ov] (getMethod ov name (do return (← importBound o env).getD true))
      callWith pos f first (backTo pos (starEach [a] env)) []) := by
  show (do
      let ov ← attributeBase o name env (eval o env)
      standAt apos.atName
      methodCall o name apos pos env ov 1 (backTo pos (starEach [a] env)) []) = _
  have e : methodCallForm 1 (backTo pos (starEach [a] env)) [] = true := by
    rw [hs]
    rfl
  unfold methodCall
  rw [e]
  unfold methodCallPos calleeOf
  rw [hp]
  simp only [Bool.not_true, Bool.false_or, if_true, pure_bind]
/-- what __init__ leaves of a fresh exception at x, over the heap h -/
structure BtEnd (h h' : Heap) (x C dx t1 : Addr) (v : Value) : Prop where
  keep : ∀ b o, h.get? b = some o → h'.get? b = some o
  obj : h'.get? x = some { cls := .ref C, dict := some dx, data := .fields #[.ref t1, .none, .none, .none, .bool false, .none] }
  dbig : h.objs.size ≤ dx
  dne : dx ≠ x
  ns : h'.Ns1 dx (fun y => if y = "field" then some v else none)
theorem str_len2 (a b : Str) : (a ++ b).length = a.length + b.length := by
  show (a.cps ++ b.cps).size = _
  rw [Array.size_append]
  rfl
theorem len1 (v : Value) : [v].length ≤ sizeLine := by
  rw [sizeLine_eq]
  exact (by decide : 1 ≤ 16777216)
section
variable {prog : Program} {w : World} {A : Around} {E : Value → Shared → Prop} {R : Result → Shared → Prop} {s : Shared} {K : Frag} {mg : Str → Option Value} {x0 : Str} {C fI : Addr}
theorem bt_init (T : ErrTxt prog K mg x0 C fI) {hp : Heap} {x t0 : Addr} {v : Value} (X : K.In hp) (G : hp.Ns mainGlobals mg) (Bl : ∃ mb, hp.Ns builtinsNs mb ∧ mb "super" = some (.type "super")) (hlim : s.heap.NoLimit)
    (k : ∀ b o, hp.get? b = some o → s.heap.get? b = some o) (hsz : hp.objs.size ≤ s.heap.objs.size) (hx : s.heap.get? x = some (excO C t0)) (hxn : hp.get? x = none) (hroom : A.depth < recursionLimit)
    (hq : ∀ h' tk' dx t1, BtEnd hp h' x C dx t1 v → R (.ok (.ret .none)) { s with heap := h', toks := tk' }) :
    codeAny (model prog w) A (.call (.ref fI) ⟨[.ref x, v], []⟩) R s := by
  obtain ⟨oc, od, an, kV, doc, pm, ct, osl, qual, cda, cc, ccl, cl, cdd, cld, ccs, csl, vs, file, tf, zM, p1, p2, q0, r0, r1, r2, r3, r4, r5, r6, r7, r8, ho, hcd, hcode, hvs, hfile, hcell, hM, hline⟩ := T.fn
  obtain ⟨nm, q, N, bs, bm, sn, sub, ab, col, dd, k0, k1, k2, k3, k5, hC, hbm⟩ := T.cls
  obtain ⟨mb, hb, hmb⟩ := Bl
  have hcl : clsIn K C = some { name := nm, bases := bs, mro := .ref C :: bm, ns := N, qualname := q, hasDict := true, slotNames := sn, subclasses := sub, abstract := ab, collection := col, hasDel := false } := by unfold clsIn; rw [hC] <;> rfl
  have Xs : K.In s.heap := X.keeps k
  have noc : ∀ y ∈ eS.names, y.2 ≠ .cell := by decide +kernel
  have locs : ∀ y ∈ [(("self" : Str), Value.ref x), ("field", v)], eS.names.lookup y.1 = some .local := fun y hy => by
    rcases List.mem_cons.mp hy with rfl | hy
    · rfl
    · rw [List.mem_singleton.mp hy]
      rfl
  refine ks_codeAny_call_defAt (body := eB (eM zM q0) r0 r1 r2 r3 r4 r5 r6 r7 r8) (binds := [("self", .ref x), ("field", v)]) hroom (Xs _ _ ho) rfl hlim (codeRec_of Xs hcd) rfl (BindsTo.of_eq (by first | rfl | with_unfolding_all rfl)) noc locs (fun h₁ hns hk₁ => ?_) rfl rfl rfl
  have Fr1 : Fr hp s.heap.objs.size h₁ (fun y => [(("self" : Str), Value.ref x), ("field", v)].reverse.lookup y) := ⟨hns, fun b o e => hk₁ b o (k b o e), hsz⟩
  have N1 : News hp s.heap.objs.size h₁ [(x, excObj C t0 none .none)] := fun p hp' => by
    rw [List.mem_singleton.mp hp']
    exact ⟨hk₁ _ _ hx, Nat.ne_of_lt (Heap.lt_size hx), hxn⟩
  show _root_.PySem.wpAt (model prog w) _ (.func _ (ksEnv qual eS s.heap.objs.size fI (.ref cda) cc)) (execs (eB (eM zM q0) r0 r1 r2 r3 r4 r5 r6 r7 r8) (ksEnv qual eS s.heap.objs.size fI (.ref cda) cc)) _ _ _
  refine ks_wpAt_execs_cons (ks_wpAt_Expr_any (ks_wpAt_MethodCall ?_ (call_line hline rfl)))
  generalize hE : (fun e s' => wpAny (model prog w) _ (leaving _ e) (fun x s'' => R (Except.error e) s'') (fun e' s'' => R (Except.error e') s'') s') = EE
  have X1 : K.In h₁ := X.keeps Fr1.keep
  -- super()
  refine ks_wpAt_super_base (env := ksEnv qual eS s.heap.objs.size fI (.ref cda) cc) rfl rfl rfl rfl (X1 _ _ ho) rfl rfl rfl (X1 _ _ hcode) rfl hvs hfile T.top ?_
  refine ks_loadName_global rfl rfl (loadGlobal_builtin (env := ksEnv qual eS s.heap.objs.size fI (.ref cda) cc) (G.keeps Fr1.keep) T.gs (hb.keeps Fr1.keep) hmb ⟨rfl, ?_⟩)
  refine wpAny_loadName_free rfl rfl rfl ⟨_, X1 _ _ hcell, rfl⟩ ?_
  refine wpAny_loadName_local (v := .ref x) rfl rfl hns rfl ?_
  refine ks_wpAny_isType_cls (X1 _ _ hC) rfl ⟨rfl, ?_⟩
  refine ks_wpAny_call_super (X1 _ _ hC) rfl (hk₁ _ _ hx) rfl (fun c z => by cases z) (looks_mroIn X1 T.slf) (fun h2 hso k2 => ?_)
  obtain ⟨F2, N2, l2⟩ := ks_newsPush (s := ⟨h₁, s.gens, s.drawn, s.toks + 2, s.os⟩) Fr1 N1 rfl hso k2
  -- its __init__, bound
  refine kxs_method kxs_ValueError F2 X N2 (List.mem_cons_self ..) (InstAt.of_exc0 (c2 := .none) (t := t0) N2 (List.mem_cons_of_mem _ (List.mem_cons_self ..))) T.opq T.sup T.veC rfl (fun u h3 F3 N3 l3 => ?_)
  refine kxs_callWith1 N3 (List.mem_cons_self ..) ?_ rfl rfl
  refine Calls.spliced_cons ?_
  show wpAny _ _ (eval (eM zM q0) (ksEnv qual eS s.heap.objs.size fI (.ref cda) cc)) _ _ _
  refine Calls.Constant_str ?_
  refine Calls.spliced_nil ⟨kxs_at N3 (List.mem_cons_self ..), ?_⟩
  have nx1 : h₁.objs.size ≠ x := fun z => Nat.lt_irrefl _ (z ▸ l2 _ (List.mem_cons_self ..) : x < x)
  have nx2 : u ≠ x := fun z => Nat.lt_irrefl _ (z ▸ l3 _ (List.mem_cons_of_mem _ (List.mem_cons_self ..)) : x < x)
  refine kxs_call F3 X N3 PySem.F.excBase_ValueError T.ei (List.mem_cons_self ..) (.tail nx2 (.tail nx1 (.head fun p hp' => by cases hp'))) (len1 _) (fun t' h4 F4 N4 l4 => ?_)
  -- self.field = field
  have X4 : K.In h4 := X.keeps F4.keep
  have hx4 : h4.get? x = some (excO C t') := (N4 (x, excObj C t' none .none) (List.mem_cons_of_mem _ (List.mem_cons_of_mem _ (List.mem_cons_of_mem _ (List.mem_cons_self ..))))).1
  refine wpAt_of_wpAny (wpAny_execs_cons (plainObj_wpAny_Assign_Attribute ?_))
  refine wpAny_Name (wpAny_loadName_local (v := v) rfl rfl F4.ns rfl ?_) rfl
  refine wpAny_Name (wpAny_loadName_local (v := .ref x) rfl rfl F4.ns rfl ?_) rfl
  refine set_plain X4 (ox := excO C t') (od := none) ⟨hx4, rfl, rfl, trivial⟩ T.sa ?_
  refine exc_osa X4 hx4 hcl (show refsVE (.ref C :: bm) = true from hbm) rfl T.noN (fun h5 tk5 dx k5 dn dne hx5 hn5 => ?_)
  have zz : s.heap.objs.size < h4.objs.size := F4.ns.lt
  exact wpAny_execs_nil (hq h5 tk5 dx t' ⟨fun b o e => k5 b o (fun z => by rw [z, hxn] at e; cases e) (F4.keep b o e), hx5, Nat.le_trans hsz (Nat.le_trans (Nat.le_of_lt zz) dn), dne, hn5⟩)
end
end FsB

set_option Elab.async false
set_option linter.all false
set_option maxRecDepth 100000
set_option maxHeartbeats 4000000
namespace FsB
open PySem PySem.W PySem.Calls PyProof.Rows PySem.HandSPX
/-- a made one -/
structure BtMade (h h' : Heap) (e C d : Addr) (v : Value) : Prop where
  keep : ∀ b o, h.get? b = some o → h'.get? b = some o
  big : h.objs.size ≤ e
  obj : ∃ t1 : Addr, h'.get? e = some { cls := .ref C, dict := some d, data := .fields #[.ref t1, .none, .none, .none, .bool false, .none] }
  dbig : h.objs.size ≤ d
  dne : d ≠ e
  ns : h'.Ns1 d (fun y => if y = "field" then some v else none)
section
variable {prog : Program} {w : World} {A : Around} {R : Result → Shared → Prop} {s : Shared} {K : Frag} {mg : Str → Option Value} {x0 : Str} {C fI : Addr}
theorem bt_made (T : ErrTxt prog K mg x0 C fI) {v : Value} (X : K.In s.heap) (G : s.heap.Ns mainGlobals mg) (Bl : ∃ mb, s.heap.Ns builtinsNs mb ∧ mb "super" = some (.type "super")) (hlim : s.heap.NoLimit) (hroom : A.depth + 1 < recursionLimit)
    (hq : ∀ h' tk' e d, BtMade s.heap h' e C d v → R (.ok (.ret (.ref e))) { s with heap := h', toks := tk' }) : codeAny (model prog w) A (.call (.ref C) ⟨[v], []⟩) R s := by
  obtain ⟨nm, q, N, bs, bm, sn, sub, ab, col, dd, k0, k1, k2, k3, k5, hC, hbm⟩ := T.cls
  obtain ⟨g0, gs, dr, t, os⟩ := s
  let g2 : Heap := (g0.push (kdv_tup [v])).push (excO C g0.objs.size)
  have up : ∀ b o, g0.get? b = some o → g2.get? b = some o := fun b o e => Heap.get?_push_of_some _ (Heap.get?_push_of_some _ e)
  have at1 : g2.get? (g0.objs.size + 1) = some (excO C g0.objs.size) := by
    show ((g0.push (kdv_tup [v])).push (excO C g0.objs.size)).get? (g0.objs.size + 1) = _
    heap_get
  have sz2 : g2.objs.size = g0.objs.size + 1 + 1 := by
    show ((g0.push (kdv_tup [v])).push (excO C g0.objs.size)).objs.size = _
    rw [Heap.size_push, Heap.size_push]
  have free1 : g0.get? (g0.objs.size + 1) = none := by
    cases e : g0.get? (g0.objs.size + 1) with
    | none => rfl
    | some o => exact absurd (Nat.lt_of_succ_lt (Heap.lt_size e)) (Nat.lt_irrefl _)
  refine call_own F.excBase_ValueError (fun Y => refsVE_contains Y bm hbm) (X _ _ hC) (looks_findIn X T.iC) (fun self => bind_fn X self T.tC) (len1 _) ?_
  refine bt_init (s := ⟨g2, gs, dr, t, os⟩) (hp := g0) T X G Bl (hlim.keeps up) up (by show g0.objs.size ≤ g2.objs.size; omega) at1 free1 hroom fun h' t' dx t1 ⟨k, ho, dbig, dne, hns⟩ => ?_
  exact ⟨rfl, hq h' t' (g0.objs.size + 1) dx ⟨k, Nat.le_succ _, ⟨t1, ho⟩, dbig, dne, hns⟩⟩
end
end FsB
namespace Fs
open PySem PySem.Spec PyProof.Rows L2 FsB
theorem relO_field {f : Str} {v : V} {u : Value} (r : RelV v u) (g : Str) : RelO (List.lookup g [(f, v)]) (if g = f then some u else none) := by
  by_cases h : g = f
  · rw [h, if_pos rfl, show List.lookup f [(f, v)] = some v by simp [List.lookup]]
    exact r
  · rw [if_neg h, show List.lookup g [(f, v)] = none by simp [List.lookup, show (g == f) = false by simpa using h]]
    trivial
theorem raises_bt {P : Program} {w : World} {K : PySem.W.Frag} {mg : Str → Option Value} {base : Heap} {x : Str} {C fI : Addr} {k : Nat} (hdb : (x == ("__debug__" : Str)) = false) (T : ErrTxt P K mg x C fI) : RaisesX P w K mg base x C "field" k := by
  intro X eP ew eK em eb hr a ta p pos ha hg he hpl pins s σ H Q I h
  subst eP ew eK em eb
  refine wpAny_Call_Name_kw (ld_glob I hg T.gC ?_ hdb)
  refine PySem.W.callWith_K (h₀ := X.base) I.ok.mod.kin T.kC (thn (ha.run pos pins s σ H _ I h) fun us s1 ⟨vs, H1, I1, r1, z, ev, hz, q1⟩ => ?_) he hpl
  subst ev
  refine ⟨I1.kIn, ?_⟩
  cases r1 with
  | cons rv rn =>
    cases rn
    obtain ⟨tk, rfl⟩ := rv
    show wpAny _ _ (call (.ref C) [.str z tk]) _ _ _
    have lim := I1.nolimit
    obtain ⟨mb, b1, b2⟩ := I1.ok.mod.blt
    have gl : s1.heap.Ns mainGlobals X.mg := I1.ok.mod.glob.keeps I1.bk
    have bl : ∃ mb, s1.heap.Ns builtinsNs mb ∧ mb "super" = some (.type "super") := ⟨mb, b1.keeps I1.bk, (b2 _ (by decide)).trans Boot.«super»⟩
    obtain ⟨g0, gs, dr, t, os⟩ := s1
    refine wpAny_call (bt_made T I1.kIn gl bl lim (by have := hr.dp; omega) fun h' t' e d M => ?_)
    show MkP X pins σ Q (.ref e) ⟨h', gs, dr, t', os⟩
    obtain ⟨t1, ho⟩ := M.obj
    obtain ⟨G', ge1, ge2⟩ := restrict h' fun b => decide (b ≠ e)
    have same : ∀ b, b ≠ e → G'.get? b = h'.get? b := fun b hb => ge1 b (decide_eq_true hb)
    have gone : G'.get? e = none := ge2 e (by simp)
    have old : ∀ b o, g0.get? b = some o → G'.get? b = some o := fun b o q => (same b (Nat.ne_of_lt (Nat.lt_of_lt_of_le (Heap.lt_size q) M.big))).trans (M.keep b o q)
    have ob : ObjOk X.prog X.w (upd H1 d (.xd [(("field" : Str), V.str z)])) G' d (.xd [(("field" : Str), V.str z)]) := ⟨_, M.ns.at (fun o q => (same d M.dne).trans q), fun f => relO_field (v := V.str z) ⟨tk, rfl⟩ f⟩
    have J : Inv X pins σ (upd H1 d (.xd [(("field" : Str), V.str z)])) ⟨G', gs, dr, t', os⟩ := I1.laid (t' := t') old M.dbig ob
    refine ⟨e, _, _, ⟨G', gs, dr, t', os⟩, _, .ref C, some d, rfl, J, fun b o q => ?_, gone, ho, ⟨rfl, rfl⟩, rfl, rfl, ?_, rfl, I1.bare, raises_own T.exC T.tyC, q1 d (I1.hok.fresh M.dbig)⟩
    · by_cases hb : b = e
      · have q' : G'.get? b = some o := q
        rw [hb, gone] at q'
        cases q'
      · exact (same b hb).symm.trans q
    · rw [upd_ne (Ne.symm M.dne)]
      exact I1.hok.fresh M.big
end Fs

set_option Elab.async false
set_option linter.all false
set_option maxRecDepth 100000
set_option maxHeartbeats 4000000
/-! Own errors as values: asked by isinstance, their fields read. -/
namespace FsV
open PySem PySem.W PySem.Calls PyProof.Rows
section
variable {P : Program} {w : World} {A : Around} {E : Value → Shared → Prop} {s : Shared} {K : Frag} {x D : Addr} {ox : Obj} {od : Option Obj}
theorem obj_class {nm : Str} {v g : Value} (h1 : (clsIn K D).isSome = true) (h2 : findIn K (.ref D) nm = some (some v)) (h3 : specialIn K v "__get__" = some (some g)) (h4 : takesIn K v = some true) : findObj K D od nm = some (.bind g v) := by
  cases od with
  | none => exact findObj_dataN h1 h2 h3 h4
  | some o => exact findObj_data h1 h2 h3 h4
/-- x.__class__, whatever its dict -/
theorem err_class {Q : Option Value → Shared → Prop} (C : L2.ExcC K D) (X : K.In s.heap) (I : InstAt s.heap x ox D od) (q : Q (some (.ref D)) { s with toks := s.toks + 1 }) : wpAny (model P w) A (getAttr? (.ref x) "__class__") Q E s := by
  have hc : (clsIn K D).isSome = true := by
    obtain ⟨c, e, _⟩ := any_some C.hd
    rw [e]
    rfl
  have found := obj_class (od := od) hc C.ha C.hn C.ht
  obtain ⟨h0, gs, dr, tk, os⟩ := s
  have T0 := I.type (M := model P w)
  have G1 := looks_findIn (M := model P w) X C.hg
  have G2 := looks_findIn (M := model P w) X C.hk
  have G3 := looks_find (M := model P w) X I found
  have isE : Looks (model P w) h0 (isInstance (.ref x) (.type "BaseException")) true := T0.andThen (looks_subIn X C.hs)
  have b1 : (false && onTheHeap (Value.builtin "BaseException.__getattribute__")) = false := by decide
  have b2 : (onTheHeap (Value.ref D) && Value.builtin "BaseException.__getattribute__" == Value.builtin "object.__getattribute__") = false := by
    rw [show (Value.builtin "BaseException.__getattribute__" == Value.builtin "object.__getattribute__") = false by decide +kernel, Bool.and_false]
  unfold getAttr? getAttrBy? getAttrBy
  refine wpAny_bind (wpAny_mkText ?_)
  refine wpAny_bind (wpAny_attempt (wpAny_holding ?_))
  refine wpAny_bind (T0.at (wpAny_bind (G1.at ?_)))
  show wpAny (model P w) A (if (onTheHeap (Value.ref D) && Value.builtin "BaseException.__getattribute__" == Value.builtin "object.__getattribute__") = true then _ else _) _ _ _
  rw [b2, if_neg (by decide)]
  unfold getAttrByItsOwn hookBefore
  refine wpAny_bind ?_
  rw [if_pos (by rfl : onTheHeap (Value.ref D) = true)]
  refine G2.at (wpAny_bind (wpAny_attempt (wpAny_holding ?_)))
  unfold callGetattribute
  rw [b1, if_neg (by decide)]
  unfold boundAndCalled
  rw [F.excAttr_ValueError.ga.bind (.ref x)]
  refine wpAny_bind (wpAny_pure ?_)
  show wpAny (model P w) A (call (.builtin "BaseException.__getattribute__") [.ref x, .str "__class__" tk]) _ _ _
  refine wpAny_call (codeAny_call_builtin F.excAttr_ValueError.ga.plain F.entry_bexc_ga ?_)
  refine @check_slot (model P w) _ _ ⟨h0, gs, dr, tk + 1, os⟩ "BaseException.__getattribute__" "BaseException" "__getattribute__" (.ref x) [.str "__class__" tk] [] _ (by decide +kernel) (by decide +kernel) isE (F.args_bexc_ga (.ref x) (.str "__class__" tk)) ?_
  unfold Builtin.«object.__getattribute__»
  refine wpAny_bind (wpAny_of_eq (a := ((Value.ref x : Value), [Value.str "__class__" tk])) (by first | rfl | (simp only [slotArgs]; rfl)) ?_)
  refine wpAny_bind (wpAny_pure (wpAny_bind (T0.at (wpAny_bind (G3.at ?_)))))
  show wpAny _ _ (holding [Value.builtin "object.__class__"] (call (.builtin "getset_descriptor.__get__") [.builtin "object.__class__", .ref x, .ref D]) >>= ret) _ _ _
  refine wpAny_bind (wpAny_holding (wpAny_call (class_get (s := ⟨h0, gs, dr, tk + 1, os⟩) (ox := ox) (od := od) X I C.hm ?_)))
  refine wpAny_pure ?_
  show wpAny _ _ (handedOut (.ref D)) _ _ _
  rw [handedOut_of (by rfl : handedIn (.ref D) = true)]
  first
    | exact wpAny_pure (wpAny_pure q)
    | exact wpAny_pure q
    | exact wpAny_pure (wpAny_bind (wpAny_pure (wpAny_pure q)))
theorem kitx_err (C : L2.ExcC K D) : KitX K (.ref x) (.ref D) (fun h => ∃ ox od, InstAt h x ox D od) where
  ty := fun M h _ ⟨_, _, I⟩ => I.type
  it := fun M h Y _ => by
    obtain ⟨c, e, _⟩ := any_some C.hd
    unfold clsIn at e
    split at e
    · rename_i _ _ _ _ at_
      intro _ _ _ _ kp q
      unfold isType loadHead
      exact wpAny_bind (wpAny_loadPart (kp _ _ (Y _ _ at_)) (wpAny_pure q))
    · cases e
  ne := fun h tp dd its n sl Y htp => (handS_kitx_exc (x := x) (ox := default) C.hg C.hk C.hs C.hd C.ha C.hn C.ht C.hm).ne h tp dd its n sl Y htp
  ca := fun Y ⟨_, _, I⟩ q => err_class C Y I q
end
end FsV
namespace FsV
open PySem PySem.Spec PyProof.Rows L2
/-- at a stands an error of the class at C -/
def IsErr (H : Hp) (a C : Addr) : Prop := H a = some (ExO (.ref C) a) ∨ ∃ d fs, H a = some (exo a C (some d)) ∧ H d = some (exd d fs)
theorem isErr_inst {P : Program} {w : World} {H : Hp} {h : Heap} {a C : Addr} (ok : HOk P w H h) (e : IsErr H a C) : ∃ ox od, PySem.W.InstAt h a ox C od := by
  rcases e with e | ⟨d, fs, e, ed⟩
  · obtain ⟨⟨oe, vs, g, z, dt, _⟩, _⟩ := (ok a _ e : ObjOk P w H h a (ExO (.ref C) a))
    obtain ⟨oc, od, oda, osl⟩ := oe
    obtain ⟨z1, z2⟩ := z
    dsimp only at z1 z2 dt
    subst z1 z2 dt
    exact ⟨_, none, g, rfl, rfl, trivial⟩
  · obtain ⟨t1, g⟩ := exo_at ok e
    obtain ⟨mA, ⟨o, es, ep, ho, hr⟩, _⟩ := exd_at ok ed
    exact ⟨_, some o, g, rfl, rfl, ho⟩
/-- isinstance(e, c), e an error as a value -/
def rIsV (K : PySem.W.Frag) : List V → Hp → VK → Prop := fun xs H Q => ∃ (a C : Addr) (c : V) (cv : Value) (b : Bool), xs = [.ref a, c] ∧ IsErr H a C ∧ ExcC K C ∧ (∀ u, RelV c u → u = cv) ∧ PySem.W.kitOne K (.ref C) cv = some b ∧ Q (.bl b) H
section
variable {X : Cx} {pos : Pos}
theorem call_isV : CallR X (.builtin "isinstance") (rIsV X.K) := by
  intro pins s σ H xs us Q I r h
  obtain ⟨a, C, c, cv, b, rfl, ea, ec, hcv, hk, q⟩ := h
  cases r with
  | cons rx rr =>
    cases rr with
    | cons rt rr =>
      cases rr
      cases rx
      obtain rfl := hcv _ rt
      exact PySem.W.kia_one (kitx_err ec) I.kIn (isErr_inst I.hok ea) hk (fun z => nomatch z) fun tk => ⟨.bl b, H, I.kept (t' := tk) fun _ _ z => z, rfl, q⟩
/-- e.f, e an error as a value -/
def tErrF (K : PySem.W.Frag) (f : Str) (te : TE) : TE := fun σ H Q => te σ H fun x H1 => ∃ (a C d : Addr) (fs : List (Str × V)) (v : V), x = .ref a ∧ H1 a = some (exo a C (some d)) ∧ H1 d = some (exd d fs) ∧ XfC K C ∧ PySem.W.findIn K (.ref C) f = some none ∧ fs.lookup f = some v ∧ Q v H1
theorem pe_errF {e : Expr} {te : TE} {n : Str} (he : PE X e te) (hb : attributeBase e n X.env (eval e X.env) = eval e X.env := by rfl) : PE X (.Attribute e n pos) (tErrF X.K n te) := by
  refine ⟨fun pins s σ H Q I h => ?_⟩
  refine attr_of hb (thn (he.run pins s σ H _ I h) fun u s1 hh => ?_)
  obtain ⟨x, H1, I1, rx, a, C, d, fs, v, rfl, ea, ed, T, hno, l, q⟩ := hh
  obtain rfl : u = Value.ref a := rx
  obtain ⟨t1, g⟩ := exo_at I1.hok ea
  obtain ⟨mA, hns, rel⟩ := exd_at I1.hok ed
  obtain ⟨od, ho, hl⟩ := lookIn_ns hns
  obtain ⟨u, hu, ru⟩ := RelO.some_of (v := v) (o := mA n) (by rw [← l]; exact rel n)
  have J : PySem.W.InstAt s1.heap a _ C (some od) := ⟨g, rfl, rfl, ho⟩
  exact HandSPX.exc_get I1.kIn J T.ga T.gg T.exC (PySem.W.findObj_own T.hdC hno rfl (by rw [hl, hu])) (handed_of ru) ⟨v, H1, I1.tok _, ru, q⟩
/-- X(), an own error without an own __init__ -/
theorem pe_err0 {C : Addr} {bmB : List Value} {B newId initId : String} {x : Str} {p : Pos} (F : ExcBaseFacts B newId initId bmB) (q : PySem.W.excIn X.K C bmB newId = true) (gC : X.mg x = some (.ref C)) (kC : PySem.W.keepIn X.K (.ref C) = true) (hg : Gl X x)
    (hdb : (x == ("__debug__" : Str)) = false := by decide) : PE X (.Call (.Name x p) [] [] pos) (fun σ H Q => ∀ a, H a = none → Q (.ref a) (upd H a (ExO (.ref C) a))) := by
  refine ⟨fun pins s σ H Q I h => ?_⟩
  refine wpAny_Call_Name_kw (ld_glob I hg gC ?_ hdb)
  refine PySem.W.callWith_K0 I.kIn kC ?_
  show wpAny (model X.prog X.w) X.A (call (.ref C) []) _ _ _
  obtain ⟨bm, N, nm, qn, bs, hdct, sn, sub, ab, col, dd, k0, k1, k2, k3, k5, mN, hC, hN, hni, T⟩ := exc_obj I.kIn q
  refine wpAny_call_exc_subT F T hC hN hni (fun h' a made => ?_) (by show 0 ≤ sizeLine; exact Nat.zero_le _)
  have fresh : H a = none := I.hok.gone made.new
  obtain ⟨t, at_, _, _⟩ := made.there
  exact ⟨.ref a, upd H a (ExO (.ref C) a), I.laidN made.keeps made.new fresh (exO_ok at_ ⟨rfl, rfl⟩ rfl rfl rfl (by show 4 < 6; decide)), rfl, h a fresh⟩
end
end FsV

set_option Elab.async false
set_option linter.all false
set_option maxRecDepth 100000
set_option maxHeartbeats 4000000
/-! An own error over ValueError, by a class between: its __init__ calls super().__init__ with a fixed text, then stores its one argument as the field name. -/
namespace FsBname
open PySem PySem.W PySem.Calls PyProof.Rows PySem.HandSPX
abbrev eS : Scope := { kind := .function, names := [(PySem.Str.ofString "self", .local), (PySem.Str.ofString "name", .local), (PySem.Str.ofString "__class__", .free), (PySem.Str.ofString "super", .globalImplicit)], isGenerator := false, isCoroutine := false, more := [] }
abbrev eA (p1 p2 : Pos) : Arguments := { posonlyargs := [], args := [{ arg := "self", annotation := none, pos := p1 }, { arg := "name", annotation := none, pos := p2 }], vararg := none, kwonlyargs := [], kw_defaults := [], kwarg := none, defaults := [] }
abbrev eB (msg : Expr) (p0 p1 p2 p3 p4 p5 p6 p7 p8 : Pos) : List Stmt := [.Expr (.Call (.Attribute (.Call (.Name "super" p0) [] [] p1) "__init__" p2) [msg] [] p3) p4, .Assign [.Attribute (.Name "self" p5) "name" p6] (.Name "name" p7) p8]
/-- the message -/
abbrev eM (z : Str) (q0 : Pos) : Expr := .Constant (.str z) 0 q0
abbrev mroVE : List Value := [.type "ValueError", .type "Exception", .type "BaseException", .type "object"]
/-- what the written part says of the class at C, and of its __init__, at fI -/
structure ErrTxt (prog : Program) (K : Frag) (mg : Str → Option Value) (x : Str) (C fI : Addr) : Prop where
  gC : mg x = some (.ref C)
  cls : ∃ nm q N bs bm sn sub ab col dd k0 k1 k2 k3 k5, K.lookup C = some (excClassObj nm q C N bs bm true sn sub ab col dd k0 k1 k2 k3 k5 "ValueError.__new__") ∧ refsVE bm = true
  ei : excInitIn K C mroVE "ValueError.__new__" = true
  sa : findIn K (.ref C) "__setattr__" = some (some (.builtin "object.__setattr__"))
  noN : findIn K (.ref C) "name" = some none
  iC : findIn K (.ref C) "__init__" = some (some (.ref fI))
  tC : typeIn K (.ref fI) = some (.type "function")
  kC : keepIn K (.ref C) = true
  exC : subIn K (.ref C) (.type "BaseException") = some true
  veC : subIn K (.ref C) (.type "ValueError") = some true
  tyC : typeIn K (.ref C) = some (.type "type")
  slf : mroIn K C (.ref C) = some true
  sup : ks_superIn K C C "__init__" = some (some (.builtin "ValueError.__init__"))
  opq : nsIn K cStatics "thirdparty.any" = some none
  gs : mg "super" = none
  top : (prog.main.scope.names.lookup ("super" : Str)).isSome = false
  fn : ∃ (oc : Value) (od an : Option Addr) (kV doc pm ct : Value) (osl : Array (Option Value)) (qual : Str) (cda cc : Addr) (ccl cl : Value) (cdd cld : Option Addr) (ccs csl : Array (Option Value)) (vs : Array Value) (file : Str) (tf : Tok) (zM : Str) (p1 p2 q0 r0 r1 r2 r3 r4 r5 r6 r7 r8 : Pos),
    K.lookup fI = some ⟨oc, od, .func (ksFn "__init__" qual (eA p1 p2) (eB (eM zM q0) r0 r1 r2 r3 r4 r5 r6 r7 r8) eS .none kV doc pm an (.ref cda) ct cc), osl⟩ ∧ codeIn K (.ref cda) qual = true ∧
    K.lookup cda = some ⟨ccl, cdd, .fields vs, ccs⟩ ∧ vs[2]? = some (.str file tf) ∧ ((prog.main.file : Str) == file) = true ∧ K.lookup cc = some ⟨cl, cld, .cell (some (.ref C)), csl⟩ ∧ zM.length ≤ 1000 ∧ (r2.endLine == r3.line) = true
theorem call_line {o : Expr} {name : Str} {apos pos : Pos} {a : Expr} {env : Env} (hp : (apos.endLine == pos.line) = true) (hs : starEach [a] env = (false, eval a env) :: starEach [] env) : eval (.Call (.Attribute o name apos) [a] [] pos) env = (do
      let ov ← attributeBase o name env (eval o env)
      standAt apos.atName
      let (f, first) ← holding [ov] (getMethod ov name (do return (← importBound o env).getD true))
      callWith pos f first (backTo pos (starEach [a] env)) []) := by
  show (do
      let ov ← attributeBase o name env (eval o env)
      standAt apos.atName
      methodCall o name apos pos env ov 1 (backTo pos (starEach [a] env)) []) = _
  have e : methodCallForm 1 (backTo pos (starEach [a] env)) [] = true := by
    rw [hs]
    rfl
  unfold methodCall
  rw [e]
  unfold methodCallPos calleeOf
  rw [hp]
  simp only [Bool.not_true, Bool.false_or, if_true, pure_bind]
/-- what __init__ leaves of a fresh exception at x, over the heap h -/
structure BtEnd (h h' : Heap) (x C dx t1 : Addr) (v : Value) : Prop where
  keep : ∀ b o, h.get? b = some o → h'.get? b = some o
  obj : h'.get? x = some { cls := .ref C, dict := some dx, data := .fields #[.ref t1, .none, .none, .none, .bool false, .none] }
  dbig : h.objs.size ≤ dx
  dne : dx ≠ x
  ns : h'.Ns1 dx (fun y => if y = "name" then some v else none)
theorem str_len2 (a b : Str) : (a ++ b).length = a.length + b.length := by
  show (a.cps ++ b.cps).size = _
  rw [Array.size_append]
  rfl
theorem len1 (v : Value) : [v].length ≤ sizeLine := by
  rw [sizeLine_eq]
  exact (by decide : 1 ≤ 16777216)
section
variable {prog : Program} {w : World} {A : Around} {E : Value → Shared → Prop} {R : Result → Shared → Prop} {s : Shared} {K : Frag} {mg : Str → Option Value} {x0 : Str} {C fI : Addr}
theorem bt_init (T : ErrTxt prog K mg x0 C fI) {hp : Heap} {x t0 : Addr} {v : Value} (X : K.In hp) (G : hp.Ns mainGlobals mg) (Bl : ∃ mb, hp.Ns builtinsNs mb ∧ mb "super" = some (.type "super")) (hlim : s.heap.NoLimit)
    (k : ∀ b o, hp.get? b = some o → s.heap.get? b = some o) (hsz : hp.objs.size ≤ s.heap.objs.size) (hx : s.heap.get? x = some (excO C t0)) (hxn : hp.get? x = none) (hroom : A.depth < recursionLimit)
    (hq : ∀ h' tk' dx t1, BtEnd hp h' x C dx t1 v → R (.ok (.ret .none)) { s with heap := h', toks := tk' }) :
    codeAny (model prog w) A (.call (.ref fI) ⟨[.ref x, v], []⟩) R s := by
  obtain ⟨oc, od, an, kV, doc, pm, ct, osl, qual, cda, cc, ccl, cl, cdd, cld, ccs, csl, vs, file, tf, zM, p1, p2, q0, r0, r1, r2, r3, r4, r5, r6, r7, r8, ho, hcd, hcode, hvs, hfile, hcell, hM, hline⟩ := T.fn
  obtain ⟨nm, q, N, bs, bm, sn, sub, ab, col, dd, k0, k1, k2, k3, k5, hC, hbm⟩ := T.cls
  obtain ⟨mb, hb, hmb⟩ := Bl
  have hcl : clsIn K C = some { name := nm, bases := bs, mro := .ref C :: bm, ns := N, qualname := q, hasDict := true, slotNames := sn, subclasses := sub, abstract := ab, collection := col, hasDel := false } := by unfold clsIn; rw [hC] <;> rfl
  have Xs : K.In s.heap := X.keeps k
  have noc : ∀ y ∈ eS.names, y.2 ≠ .cell := by decide +kernel
  have locs : ∀ y ∈ [(("self" : Str), Value.ref x), ("name", v)], eS.names.lookup y.1 = some .local := fun y hy => by
    rcases List.mem_cons.mp hy with rfl | hy
    · rfl
    · rw [List.mem_singleton.mp hy]
      rfl
  refine ks_codeAny_call_defAt (body := eB (eM zM q0) r0 r1 r2 r3 r4 r5 r6 r7 r8) (binds := [("self", .ref x), ("name", v)]) hroom (Xs _ _ ho) rfl hlim (codeRec_of Xs hcd) rfl (BindsTo.of_eq (by first | rfl | with_unfolding_all rfl)) noc locs (fun h₁ hns hk₁ => ?_) rfl rfl rfl
  have Fr1 : Fr hp s.heap.objs.size h₁ (fun y => [(("self" : Str), Value.ref x), ("name", v)].reverse.lookup y) := ⟨hns, fun b o e => hk₁ b o (k b o e), hsz⟩
  have N1 : News hp s.heap.objs.size h₁ [(x, excObj C t0 none .none)] := fun p hp' => by
    rw [List.mem_singleton.mp hp']
    exact ⟨hk₁ _ _ hx, Nat.ne_of_lt (Heap.lt_size hx), hxn⟩
  show _root_.PySem.wpAt (model prog w) _ (.func _ (ksEnv qual eS s.heap.objs.size fI (.ref cda) cc)) (execs (eB (eM zM q0) r0 r1 r2 r3 r4 r5 r6 r7 r8) (ksEnv qual eS s.heap.objs.size fI (.ref cda) cc)) _ _ _
  refine ks_wpAt_execs_cons (ks_wpAt_Expr_any (ks_wpAt_MethodCall ?_ (call_line hline rfl)))
  generalize hE : (fun e s' => wpAny (model prog w) _ (leaving _ e) (fun x s'' => R (Except.error e) s'') (fun e' s'' => R (Except.error e') s'') s') = EE
  have X1 : K.In h₁ := X.keeps Fr1.keep
  -- super()
  refine ks_wpAt_super_base (env := ksEnv qual eS s.heap.objs.size fI (.ref cda) cc) rfl rfl rfl rfl (X1 _ _ ho) rfl rfl rfl (X1 _ _ hcode) rfl hvs hfile T.top ?_
  refine ks_loadName_global rfl rfl (loadGlobal_builtin (env := ksEnv qual eS s.heap.objs.size fI (.ref cda) cc) (G.keeps Fr1.keep) T.gs (hb.keeps Fr1.keep) hmb ⟨rfl, ?_⟩)
  refine wpAny_loadName_free rfl rfl rfl ⟨_, X1 _ _ hcell, rfl⟩ ?_
  refine wpAny_loadName_local (v := .ref x) rfl rfl hns rfl ?_
  refine ks_wpAny_isType_cls (X1 _ _ hC) rfl ⟨rfl, ?_⟩
  refine ks_wpAny_call_super (X1 _ _ hC) rfl (hk₁ _ _ hx) rfl (fun c z => by cases z) (looks_mroIn X1 T.slf) (fun h2 hso k2 => ?_)
  obtain ⟨F2, N2, l2⟩ := ks_newsPush (s := ⟨h₁, s.gens, s.drawn, s.toks + 2, s.os⟩) Fr1 N1 rfl hso k2
  -- its __init__, bound
  refine kxs_method kxs_ValueError F2 X N2 (List.mem_cons_self ..) (InstAt.of_exc0 (c2 := .none) (t := t0) N2 (List.mem_cons_of_mem _ (List.mem_cons_self ..))) T.opq T.sup T.veC rfl (fun u h3 F3 N3 l3 => ?_)
  refine kxs_callWith1 N3 (List.mem_cons_self ..) ?_ rfl rfl
  refine Calls.spliced_cons ?_
  show wpAny _ _ (eval (eM zM q0) (ksEnv qual eS s.heap.objs.size fI (.ref cda) cc)) _ _ _
  refine Calls.Constant_str ?_
  refine Calls.spliced_nil ⟨kxs_at N3 (List.mem_cons_self ..), ?_⟩
  have nx1 : h₁.objs.size ≠ x := fun z => Nat.lt_irrefl _ (z ▸ l2 _ (List.mem_cons_self ..) : x < x)
  have nx2 : u ≠ x := fun z => Nat.lt_irrefl _ (z ▸ l3 _ (List.mem_cons_of_mem _ (List.mem_cons_self ..)) : x < x)
  refine kxs_call F3 X N3 PySem.F.excBase_ValueError T.ei (List.mem_cons_self ..) (.tail nx2 (.tail nx1 (.head fun p hp' => by cases hp'))) (len1 _) (fun t' h4 F4 N4 l4 => ?_)
  -- self.field = field
  have X4 : K.In h4 := X.keeps F4.keep
  have hx4 : h4.get? x = some (excO C t') := (N4 (x, excObj C t' none .none) (List.mem_cons_of_mem _ (List.mem_cons_of_mem _ (List.mem_cons_of_mem _ (List.mem_cons_self ..))))).1
  refine wpAt_of_wpAny (wpAny_execs_cons (plainObj_wpAny_Assign_Attribute ?_))
  refine wpAny_Name (wpAny_loadName_local (v := v) rfl rfl F4.ns rfl ?_) rfl
  refine wpAny_Name (wpAny_loadName_local (v := .ref x) rfl rfl F4.ns rfl ?_) rfl
  refine set_plain X4 (ox := excO C t') (od := none) ⟨hx4, rfl, rfl, trivial⟩ T.sa ?_
  refine exc_osa X4 hx4 hcl (show refsVE (.ref C :: bm) = true from hbm) rfl T.noN (fun h5 tk5 dx k5 dn dne hx5 hn5 => ?_)
  have zz : s.heap.objs.size < h4.objs.size := F4.ns.lt
  exact wpAny_execs_nil (hq h5 tk5 dx t' ⟨fun b o e => k5 b o (fun z => by rw [z, hxn] at e; cases e) (F4.keep b o e), hx5, Nat.le_trans hsz (Nat.le_trans (Nat.le_of_lt zz) dn), dne, hn5⟩)
end
/-- a made one -/
structure BtMade (h h' : Heap) (e C d : Addr) (v : Value) : Prop where
  keep : ∀ b o, h.get? b = some o → h'.get? b = some o
  big : h.objs.size ≤ e
  obj : ∃ t1 : Addr, h'.get? e = some { cls := .ref C, dict := some d, data := .fields #[.ref t1, .none, .none, .none, .bool false, .none] }
  dbig : h.objs.size ≤ d
  dne : d ≠ e
  ns : h'.Ns1 d (fun y => if y = "name" then some v else none)
section
variable {prog : Program} {w : World} {A : Around} {R : Result → Shared → Prop} {s : Shared} {K : Frag} {mg : Str → Option Value} {x0 : Str} {C fI : Addr}
theorem bt_made (T : ErrTxt prog K mg x0 C fI) {v : Value} (X : K.In s.heap) (G : s.heap.Ns mainGlobals mg) (Bl : ∃ mb, s.heap.Ns builtinsNs mb ∧ mb "super" = some (.type "super")) (hlim : s.heap.NoLimit) (hroom : A.depth + 1 < recursionLimit)
    (hq : ∀ h' tk' e d, BtMade s.heap h' e C d v → R (.ok (.ret (.ref e))) { s with heap := h', toks := tk' }) : codeAny (model prog w) A (.call (.ref C) ⟨[v], []⟩) R s := by
  obtain ⟨nm, q, N, bs, bm, sn, sub, ab, col, dd, k0, k1, k2, k3, k5, hC, hbm⟩ := T.cls
  obtain ⟨g0, gs, dr, t, os⟩ := s
  let g2 : Heap := (g0.push (kdv_tup [v])).push (excO C g0.objs.size)
  have up : ∀ b o, g0.get? b = some o → g2.get? b = some o := fun b o e => Heap.get?_push_of_some _ (Heap.get?_push_of_some _ e)
  have at1 : g2.get? (g0.objs.size + 1) = some (excO C g0.objs.size) := by
    show ((g0.push (kdv_tup [v])).push (excO C g0.objs.size)).get? (g0.objs.size + 1) = _
    heap_get
  have sz2 : g2.objs.size = g0.objs.size + 1 + 1 := by
    show ((g0.push (kdv_tup [v])).push (excO C g0.objs.size)).objs.size = _
    rw [Heap.size_push, Heap.size_push]
  have free1 : g0.get? (g0.objs.size + 1) = none := by
    cases e : g0.get? (g0.objs.size + 1) with
    | none => rfl
    | some o => exact absurd (Nat.lt_of_succ_lt (Heap.lt_size e)) (Nat.lt_irrefl _)
  refine call_own F.excBase_ValueError (fun Y => refsVE_contains Y bm hbm) (X _ _ hC) (looks_findIn X T.iC) (fun self => bind_fn X self T.tC) (len1 _) ?_
  refine bt_init (s := ⟨g2, gs, dr, t, os⟩) (hp := g0) T X G Bl (hlim.keeps up) up (by show g0.objs.size ≤ g2.objs.size; omega) at1 free1 hroom fun h' t' dx t1 ⟨k, ho, dbig, dne, hns⟩ => ?_
  exact ⟨rfl, hq h' t' (g0.objs.size + 1) dx ⟨k, Nat.le_succ _, ⟨t1, ho⟩, dbig, dne, hns⟩⟩
end
end FsBname
namespace FsBname
open PySem PySem.Spec PyProof.Rows L2
theorem relO_one {v : V} {u : Value} (r : RelV v u) (g : Str) : RelO (List.lookup g [(("name" : Str), v)]) (if g = "name" then some u else none) := by
  by_cases h : g = "name"
  · rw [h, if_pos rfl, show List.lookup ("name" : Str) [(("name" : Str), v)] = some v by simp [List.lookup]]
    exact r
  · rw [if_neg h, show List.lookup g [(("name" : Str), v)] = none by simp [List.lookup, show (g == "name") = false by simpa using h]]
    trivial
/-- X(v), its one field v -/
def tNew (C : Addr) (te : TE) : TE := fun σ H Q => te σ H fun v H1 => ∀ a d, H1 a = none → H1 d = none → d ≠ a → Q (.ref a) (upd (upd H1 a (exo a C (some d))) d (exd d [("name", v)]))
theorem pe_new {X : Cx} {C fI : Addr} {x : Str} {e : Expr} {te : TE} {p pos : Pos} (T : ErrTxt X.prog X.K X.mg x C fI) (hr : Room 2 X.A) (he : PE X e te) (hg : Gl X x) (hdb : (x == ("__debug__" : Str)) = false := by decide)
    (hs : starEach [e] X.env = (false, eval e X.env) :: starEach [] X.env := by rfl) (hpl : (backTo pos (starEach [] X.env)).any (·.1) = false := by rfl) : PE X (.Call (.Name x p) [e] [] pos) (tNew C te) := by
  refine ⟨fun pins s σ H Q I h => ?_⟩
  refine wpAny_Call_Name_kw (ld_glob I hg T.gC ?_ hdb)
  refine PySem.W.callWith_K (h₀ := X.base) I.ok.mod.kin T.kC ?_ hs hpl
  rw [hs]
  refine Calls.spliced_cons (thn (he.run pins s σ H _ I h) fun u s1 ⟨v, H1, I1, r1, q1⟩ => ?_)
  refine Calls.spliced_nil ⟨I1.kIn, ?_⟩
  show wpAny _ _ (call (.ref C) [u]) _ _ _
  have lim := I1.nolimit
  obtain ⟨mb, b1, b2⟩ := I1.ok.mod.blt
  have gl : s1.heap.Ns mainGlobals X.mg := I1.ok.mod.glob.keeps I1.bk
  have bl : ∃ mb, s1.heap.Ns builtinsNs mb ∧ mb "super" = some (.type "super") := ⟨mb, b1.keeps I1.bk, (b2 _ (by decide)).trans Boot.«super»⟩
  obtain ⟨g0, gs, dr, t, os⟩ := s1
  refine wpAny_call (bt_made T I1.kIn gl bl lim (by have := hr.dp; omega) fun h' t' a d M => ?_)
  obtain ⟨t1, ho⟩ := M.obj
  obtain ⟨G, ge1, ge2⟩ := restrict h' fun b => decide (b ≠ d)
  have same : ∀ b, b ≠ d → G.get? b = h'.get? b := fun b hb => ge1 b (decide_eq_true hb)
  have gone : G.get? d = none := ge2 d (by simp)
  have old : ∀ b o, g0.get? b = some o → G.get? b = some o := fun b o z => (same b (Nat.ne_of_lt (Nat.lt_of_lt_of_le (Heap.lt_size z) M.dbig))).trans (M.keep b o z)
  have na := I1.hok.fresh M.big
  have nd := I1.hok.fresh M.dbig
  have I2 : Inv X pins σ (upd H1 a (exo a C (some d))) ⟨G, gs, dr, t', os⟩ := I1.laid (t' := t') old M.big (exo_ok ((same a (Ne.symm M.dne)).trans ho))
  have I3 := I2.laidN (h' := h') (a := d) (o := exd d [("name", v)]) (t' := t') (fun b o z => by
    by_cases hb : b = d
    · rw [hb, gone] at z
      cases z
    · exact (same b hb).symm.trans z) gone (by rw [upd_ne M.dne]; exact nd) (exd_ok M.ns (relO_one r1))
  exact ⟨.ref a, _, I3, rfl, q1 a d na nd M.dne⟩
end FsBname

set_option Elab.async false
set_option linter.all false
set_option maxRecDepth 100000
set_option maxHeartbeats 2000000
/-! a op b, both instances of one class of the program that defines the operator. -/
namespace FsR
open PySem PySem.Spec PyProof.Rows L2 ClX
structure OpM (K : PySem.W.Frag) (C : Addr) (op : Operator) (g : Addr) : Prop where
  fst : PySem.W.selfFirst K C = true
  at_ : PySem.W.findIn K (.ref C) (PySem.dunder op.info.2) = some (some (.ref g))
  fn : PySem.W.isFn K (.ref g) = true
/-- a op b -/
def tOwn (C : Addr) (sp : Sp) (E : L2.St → XK) (ta tb : TE) : TE := fun σ H Q => ta σ H fun x H1 => tb σ H1 fun y H2 => ∃ (a b dx dy : Addr) (fs gs : List (Str × V)), x = .ref a ∧ y = .ref b ∧ H2 a = some (.ins C dx fs) ∧ H2 b = some (.ins C dy gs) ∧ sp [.ref a, .ref b] H2 Q (E σ)
theorem no_notimpl {y : V} (r : RelV y Value.notImplemented) : False := by
  cases y <;> first | (obtain ⟨t, e⟩ := r; cases e; done) | (cases r; done)
theorem pe_own {X : Cx} {CX : CXT} {k : Nat} {C g : Addr} {fd : FuncData} {ps : List Str} {sp : Sp} {E : L2.St → XK} {ea eb : Expr} {op : Operator} {pos : Pos} {ta tb : TE} (ha : PE X ea ta) (hb : PE X eb tb) (M : OpM X.K C op g) (F : FnOk X.prog X.w X.K X.mg X.base CX k g fd ps sp) (hr : Room k X.A) (hd : Binds X.K fd ps [])
    (hx : ∀ σ, PassesAt CX X σ (E σ)) : PE X (.BinOp ea op eb pos) (tOwn C sp E ta tb) := by
  refine ⟨fun pins s σ H Q I h => wpAny_BinOp (binT ha hb I h fun v u s2 x y H2 I2 rx ry q => ?_)⟩
  obtain ⟨a, b, dx, dy, fs, gs, rfl, rfl, h1, h2, q⟩ := q
  obtain rfl : v = Value.ref a := rx
  obtain rfl : u = Value.ref b := ry
  obtain ⟨_, O1, _, _, _, _⟩ := ins_get I2.hok h1
  obtain ⟨_, O2, _, _, _, _⟩ := ins_get I2.hok h2
  obtain ⟨_, i1, _⟩ := O1.look
  obtain ⟨_, i2, _⟩ := O2.look
  obtain ⟨m, fr⟩ := I2.fr
  refine PySem.W.binop_K fr I2.ok.mod.kin i1 i2.type M.fst M.at_ M.fn (wpAny_mono (run_fnS (us := [.ref a, .ref b]) (vs := [.ref a, .ref b]) F hr hd (hx σ) I2 (.cons rfl (.cons rfl .nil)) q) (fun w s' hw => ?_) fun _ _ z => z)
  obtain ⟨y, H', J, r, q'⟩ := hw
  have fin : EP X pins σ Q w s' := ⟨y, H', J, r, q'⟩
  cases w with
  | notImplemented => exact no_notimpl r
  | _ => exact fin
end FsR

set_option Elab.async false
set_option linter.all false
set_option maxRecDepth 100000
set_option maxHeartbeats 2000000
/-! o[i] = v and x in o by an own class's methods; dict(()) and dict(d). -/
namespace FsR
open PySem PySem.Spec PyProof.Rows L2 Evl
structure StM (K : PySem.W.Frag) (C : Addr) (g : Addr) : Prop where
  at_ : PySem.W.findIn K (.ref C) "__setitem__" = some (some (.ref g))
  fn : PySem.W.isFn K (.ref g) = true
  nq : PySem.W.noSeq K C = true
structure CoM (K : PySem.W.Frag) (C : Addr) (g : Addr) : Prop where
  at_ : PySem.W.findIn K (.ref C) "__contains__" = some (some (.ref g))
  fn : PySem.W.isFn K (.ref g) = true
section
variable {X : Cx} {CX : CXT} {k : Nat} {C g : Addr} {fd : FuncData} {ps : List Str} {sp : Sp} {E : L2.St → XK} {pos : Pos}
/-- o[i] = v -/
def gSubO (C : Addr) (sp : Sp) (E : L2.St → XK) (to ti : TE) : TG := fun v σ H Q => to σ H fun o H1 => ti σ H1 fun i H2 => ∃ (a dx : Addr) (fs : List (Str × V)), o = .ref a ∧ H2 a = some (.ins C dx fs) ∧ sp [.ref a, i, v] H2 (fun _ H3 => Q σ H3) (E σ)
theorem pg_subO {o i : Expr} {to ti : TE} (ho : PE X o to) (hi : PE X i ti) (M : StM X.K C g) (F : FnOk X.prog X.w X.K X.mg X.base CX k g fd ps sp) (hr : Room k X.A) (hd : Binds X.K fd ps []) (hx : ∀ σ, PassesAt CX X σ (E σ))
    (ha : ∀ v, assign (.Subscript o i pos) X.env v = (do
      let ov ← holding [v] (eval o X.env)
      let iv ← holding [v, ov] (eval i X.env)
      standAt pos
      holding [v, ov, iv] (setItem ov iv v)
      release [v, ov, iv] []) := by intro _; rfl) : PG X (.Subscript o i pos) (gSubO C sp E to ti) := by
  refine ⟨fun pins s σ H v u Q I r h => ?_⟩
  rw [ha]
  refine wpAny_bind (wpAny_holding (thn (ho.run pins s σ H _ I h) fun ov s1 ⟨x, H1, I1, r1, q1⟩ => ?_))
  refine wpAny_bind (wpAny_holding (thn (hi.run pins s1 σ H1 _ I1 q1) fun iv s2 ⟨y, H2, I2, r2, q2⟩ => ?_))
  obtain ⟨a, dx, fs, ex, h2, q3⟩ := q2
  subst ex
  obtain rfl : ov = Value.ref a := r1
  obtain ⟨_, O1, _⟩ := ins_get I2.hok h2
  obtain ⟨_, i1, _⟩ := O1.look
  obtain ⟨m, fr⟩ := I2.fr
  refine wpAny_bind (wpAny_standAt (wpAny_bind (wpAny_holding ?_)))
  refine PySem.W.ksp_setItem fr I2.ok.mod.kin i1 M.nq M.at_ M.fn (wpAny_mono (run_fnS (us := [.ref a, iv, u]) (vs := [.ref a, y, v]) F hr hd (hx σ) I2 (.cons rfl (.cons r2 (.cons r .nil))) q3) (fun w s' z => ?_) fun _ _ z => z)
  obtain ⟨y', H', J, _, q'⟩ := z
  exact wpAny_release ⟨σ, H', J, q'⟩
/-- x in o -/
def rInO (C : Addr) (sp : Sp) (E : XK) (neg : Bool) : R2 := fun x y H Q => ∃ (a dx : Addr) (fs : List (Str × V)), y = .ref a ∧ H a = some (.ins C dx fs) ∧ sp [.ref a, x] H (fun v H' => ∃ b, v = .bl b ∧ Q (.bl (if neg then !b else b)) H') E
theorem op_inO {E : XK} (M : CoM X.K C g) (F : FnOk X.prog X.w X.K X.mg X.base CX k g fd ps sp) (hr : Room k X.A) (hd : Binds X.K fd ps []) (hx : ∀ σ, PassesAt CX X σ E) : OpR X (compareOp .In) (rInO C sp E false) := by
  intro pins s σ H x y v u Q I rx ry h
  obtain ⟨a, dx, fs, rfl, h1, q⟩ := h
  obtain rfl : u = Value.ref a := ry
  obtain ⟨_, O1, _⟩ := ins_get I.hok h1
  obtain ⟨_, i1, _⟩ := O1.look
  obtain ⟨m, fr⟩ := I.fr
  refine PySem.W.in_K fr I.ok.mod.kin i1 M.at_ M.fn (wpAny_mono (run_fnS (E := fun _ => E) (us := [.ref a, v]) (vs := [.ref a, x]) F hr hd (hx σ) I (.cons rfl (.cons rx .nil)) q) (fun w s' z => ?_) fun _ _ z => z)
  obtain ⟨y, H', J, r, b, ey, q'⟩ := z
  subst ey
  cases r
  exact wpAny_pure ⟨.bl b, H', J, rfl, q'⟩
theorem op_niO {E : XK} (M : CoM X.K C g) (F : FnOk X.prog X.w X.K X.mg X.base CX k g fd ps sp) (hr : Room k X.A) (hd : Binds X.K fd ps []) (hx : ∀ σ, PassesAt CX X σ E) : OpR X (compareOp .NotIn) (rInO C sp E true) := by
  intro pins s σ H x y v u Q I rx ry h
  obtain ⟨a, dx, fs, rfl, h1, q⟩ := h
  obtain rfl : u = Value.ref a := ry
  obtain ⟨_, O1, _⟩ := ins_get I.hok h1
  obtain ⟨_, i1, _⟩ := O1.look
  obtain ⟨m, fr⟩ := I.fr
  refine PySem.W.notIn_K fr I.ok.mod.kin i1 M.at_ M.fn (wpAny_mono (run_fnS (E := fun _ => E) (us := [.ref a, v]) (vs := [.ref a, x]) F hr hd (hx σ) I (.cons rfl (.cons rx .nil)) q) (fun w s' z => ?_) fun _ _ z => z)
  obtain ⟨y, H', J, r, b, ey, q'⟩ := z
  subst ey
  cases r
  exact wpAny_pure ⟨.bl (!b), H', J, rfl, q'⟩
end
/-- an empty tuple of the written part -/
def Tup0 (K : PySem.W.Frag) (a : Addr) : Prop := ∃ o n, K.lookup a = some o ∧ o.cls = .type "tuple" ∧ o.dict = none ∧ o.data = .seq #[] n
theorem call_dict0 {X : Cx} (hcalm : X.calm = true) : CallR X (.type "dict") (fun xs H Q => ∃ a : Addr, xs = [.ref a] ∧ Tup0 X.K a ∧ ∀ p, H p = none → Q (.ref p) (upd H p (.dK []))) := by
  intro pins s σ H xs us Q I r q
  obtain ⟨a, ex, ⟨o, n, hk, hc, hdc, hdat⟩, q⟩ := q
  subst ex
  obtain ⟨u, eu, rx⟩ := vals1 r
  subst eu
  cases rx
  have ho := I.kIn a o hk
  refine PySem.call_dict_pairs (knd := mixKind X.prog X.w) (kvs := []) (PySem.PairArg.tuple a #[] (fun _ => 0) []) (I.ok.hd hcalm) ⟨⟨o, n, ho, hc, hdc, hdat⟩, rfl, fun j k v e => by simp at e⟩ ⟨rfl, fun i key v e => by simp [PySem.PairRel] at e⟩ (Nat.zero_le _) (fun h' tk hd' k => ?_)
  have hm : (s.heap.objs.size == sysModules) = false := beq_eq_false_iff_ne.mpr (Nat.ne_of_gt I.big)
  exact ⟨.ref s.heap.objs.size, upd H s.heap.objs.size (.dK []), I.laid (t' := tk) (fun b u e => k b u (by simp) e) (Nat.le_refl _) (show ObjOk X.prog X.w _ _ _ (.dK []) from ⟨Nat.zero_le _, hm, [], .nil, hd'⟩), rfl, q _ (I.hok.fresh (Nat.le_refl _))⟩
/-- dict(()), dict(d) -/
def rDictA (K : PySem.W.Frag) : List V → Hp → VK → Prop := fun xs H Q => (∃ a : Addr, xs = [.ref a] ∧ Tup0 K a ∧ ∀ p, H p = none → Q (.ref p) (upd H p (.dK []))) ∨ ∃ (a : Addr) (kvs : List (Key × V)), xs = [.ref a] ∧ Rd H a (.dK kvs) ∧ ∀ p, H p = none → Q (.ref p) (upd H p (.dK kvs))
theorem call_dictA {X : Cx} (hcalm : X.calm = true) : CallR X (.type "dict") (rDictA X.K) := fun pins s σ H xs us Q I r q => q.elim (fun z => call_dict0 hcalm pins s σ H xs us Q I r z) fun z => call_dictD pins s σ H xs us Q I r z
end FsR

set_option Elab.async false
set_option linter.all false
set_option maxRecDepth 100000
set_option maxHeartbeats 2000000
/-! {**a, k: v}, {**a, **b} -/
namespace FsD
open PySem PySem.Spec PyProof.Rows L2 Evl
section
variable {prog : Program} {w : World} {K : Type} [DecidableEq K] {knd : KeyKind prog w K} {A : Around} {E : Value → Shared → Prop} {s : Shared}
theorem dictPut_pairs {d : Addr} {kvs : List (K × Value)} {k : K} {key v : Value} {Q : Unit → Shared → Prop} (hkey : knd.is k key = true) (hm : s.heap.DictOf knd d kvs)
    (hQ : ∀ h', h'.DictOf knd d (stored kvs k v) → Heap.SameBut d s.heap h' → Q () { s with heap := h' }) (hsz : kvs.length ≤ sizeLine) : wpAny (model prog w) A (dictPut d (knd.hash k) key v) Q E s := by
  obtain ⟨o, es, ep, ho, hc, hd, hk, hp, hn⟩ := hm
  have hes : es.size ≤ sizeLine := by
    have e1 := hp.length
    have e2 : es.toList.length = es.size := by simp
    omega
  unfold dictPut
  refine wpAny_bind (wpAny_dictFind_of hkey ho hd hk ?_)
  have hidx : (es.findIdx? fun e => knd.is k e.key) = kvs.findIdx? fun kv => decide (kv.1 = k) := by
    rw [← hp.findIdx k]; obtain ⟨l⟩ := es; simp
  cases hi : es.findIdx? fun e => knd.is k e.key with
  | some i =>
    refine wpAny_updateDict ho hd (hQ _ ⟨_, _, ep, Heap.get?_update_self _ ho (Obj.isFreed_of_dict (Obj.data_mapDict hd _)),
      hc.mapDict _, Obj.data_mapDict hd _, hk.modify _ _, ?_, ?_⟩ (Heap.SameBut.update ..))
    · rw [stored, if_pos (any_of_findIdx_some (hidx ▸ hi))]
      have hl : (es.toList.findIdx? fun e => knd.is k e.key) = some i := by rw [← hi]; obtain ⟨l⟩ := es; simp
      have := hp.modify hn hl v
      obtain ⟨l⟩ := es
      simpa using this
    · rw [stored, if_pos (any_of_findIdx_some (hidx ▸ hi)), keys_map_store]; exact hn
  | none =>
    have hnot : k ∉ kvs.map (·.1) := not_mem_of_findIdx_none (hidx ▸ hi)
    have hany : ¬ (kvs.any fun kv => decide (kv.1 = k)) = true := by
      rw [List.any_eq_true]; rintro ⟨kv, hkv, he⟩
      exact hnot (List.mem_map.mpr ⟨kv, hkv, of_decide_eq_true he⟩)
    refine wpAny_updateDictKeys (hz := hes) ho hd (hQ _ ⟨_, _, ep + 1, Heap.get?_update_self _ ho (Obj.isFreed_of_dict (Obj.data_mapDictKeys hd _)),
      hc.mapDictKeys _, Obj.data_mapDictKeys hd _, hk.push hkey _, ?_, ?_⟩ (Heap.SameBut.update ..))
    · rw [stored, if_neg hany]
      have := hp.append hkey (knd.hash k) v
      obtain ⟨l⟩ := es
      simpa using this
    · rw [stored, if_neg hany, List.map_append, List.nodup_append]
      refine ⟨hn, by simp, ?_⟩
      intro a ha b hb
      simp only [List.map_cons, List.map_nil, List.mem_singleton] at hb
      subst hb
      exact fun e => hnot (e ▸ ha)
end
section
variable {prog : Program} {w : World} {A : Around} {E : Value → Shared → Prop} {s : Shared}
theorem mix_noref {k : Key} {v : Value} (h : (mixKind prog w).is k v = true) : ∀ a, v ≠ .ref a := fun a z => by
  subst z
  rcases keyIs_shape h with ⟨i, t, _, e⟩ | ⟨x, t, _, e⟩ <;> cases e
theorem mergeMap {d o : Addr} {kvs more : List (Key × Value)} {Q : Unit → Shared → Prop} (hdo : d ≠ o) (hoS : (o == sysModules) = false)
    (hd : s.heap.DictOf (mixKind prog w) d kvs) (ho : s.heap.DictOf (mixKind prog w) o more)
    (hQ : ∀ h', h'.DictOf (mixKind prog w) d (merged kvs more) → h'.DictOf (mixKind prog w) o more → Heap.SameBut d s.heap h' → Q () { s with heap := h' })
    (hsz : kvs.length + more.length ≤ sizeLine) : wpAny (model prog w) A (mergeMapping d (.ref o) false) Q E s := by
  obtain ⟨od, esd, epd, hod, hcd, hdd, hkd, hpd, hnd⟩ := id hd
  obtain ⟨oo, eso, epo, hoo, hco, hdo', hko, hpo, hno⟩ := id ho
  have hlen : more.length = eso.size := by rw [← hpo.length]; simp
  unfold mergeMapping
  refine wpAny_bind (m := isInstance (.ref o) (.type "dict")) (wpAny_isInstance ho.typeIs isSubtype_dict_dict ?_)
  rw [if_pos rfl]
  refine wpAny_bind (m := specialOf _ _) (wpAny_specialOf ho.typeIs F.slot_dict_iter.lookup ?_)
  show wpAny _ _ (if (o == sysModules) = true then _ else _) _ _ _
  rw [if_neg (by rw [hoS]; exact Bool.false_ne_true)]
  refine wpAny_bind (m := dictEntries d) (wpAny_dictEntries hod hdd ?_)
  have loop : wpAny (model prog w) A (do
      let l ← dictEntries o
      let epoch ← dictEpoch o
      forIn (List.range l.size) PUnit.unit fun i (_ : PUnit) => (do
          let l' ← dictEntries o
          match l'[i]? with
            | some e => do
              holding [e.key, e.val] (dictPut d e.hash e.key e.val)
              let ep' ← dictEpoch o
              if (ep' != epoch) = true then do
                  (unsupported "dict.changed-during-merge" : Sem PUnit)
                  pure (ForInStep.yield PUnit.unit)
                else pure (ForInStep.yield PUnit.unit)
            | _ => do
              (unsupported "dict.changed-during-merge" : Sem PUnit)
              pure (ForInStep.yield PUnit.unit) : Sem (ForInStep PUnit))
      pure ()) Q E s := by
    refine wpAny_bind (wpAny_dictEntries hoo hdo' ?_)
    refine wpAny_bind (wpAny_dictEpoch hoo hdo' ?_)
    refine wpAny_bind ?_
    rw [List.range_eq_range']
    refine wpAny_forIn_list _
      (fun rest _ s' => ∃ h' i, s' = { s with heap := h' } ∧ rest = List.range' i (eso.size - i) ∧ i ≤ eso.size ∧ h'.DictOf (mixKind prog w) d (merged kvs (more.take i)) ∧ h'.get? o = some oo ∧ Heap.SameBut d s.heap h')
      _ ?_ ?_ _ _ ⟨s.heap, 0, rfl, by simp, Nat.zero_le _, by simpa [merged] using hd, hoo, Heap.SameBut.refl _ _⟩
    · rintro x rest b s' ⟨h', i, rfl, hr, hi, hd', hoo', hs'⟩
      have hlt : i < eso.size := by
        rcases Nat.lt_or_ge i eso.size with h | h
        · exact h
        · rw [Nat.sub_eq_zero_of_le h] at hr; simp at hr
      obtain ⟨rfl, hrest⟩ : x = i ∧ rest = List.range' (i + 1) (eso.size - (i + 1)) := by
        have e : eso.size - i = (eso.size - (i + 1)) + 1 := by omega
        rw [e, List.range'_succ] at hr
        injection hr with h1 h2
        exact ⟨h1, h2⟩
      refine wpAny_bind (wpAny_dictEntries hoo' hdo' ?_)
      rw [Array.getElem?_eq_getElem hlt]
      obtain ⟨kv, hkv⟩ : ∃ kv, more[x]? = some kv := ⟨more[x]'(by rw [hlen]; exact hlt), List.getElem?_eq_getElem _⟩
      obtain ⟨k, v⟩ := kv
      obtain ⟨hkey, hval⟩ := hpo.get? (e := eso[x]) (by simp [hlt]) hkv
      obtain ⟨k', hkey', hhash⟩ := hko eso[x] (Array.getElem_mem hlt)
      obtain rfl : k' = k := (mixKind prog w).inj _ _ _ hkey' hkey
      show wpAny _ _ (holding [eso[x].key, eso[x].val] (dictPut d eso[x].hash eso[x].key eso[x].val) >>= _) _ _ _
      rw [hhash, hval]
      have hmx : (merged kvs (more.take x)).length ≤ sizeLine := by
        have e1 := merged_length_le kvs (more.take x)
        have e2 : (more.take x).length ≤ more.length := by rw [List.length_take]; omega
        omega
      refine wpAny_bind (wpAny_holding (dictPut_pairs (hsz := hmx) hkey hd' fun h'' hd'' hs'' => ?_))
      have hoo'' : h''.get? o = some oo := (hs''.2 o (Ne.symm hdo)).trans hoo'
      refine wpAny_bind (wpAny_dictEpoch hoo'' hdo' ?_)
      rw [if_neg (by simp)]
      exact wpAny_pure ⟨h'', x + 1, rfl, hrest, hlt, by rw [merged_take_succ kvs more x (k', v) hkv]; exact hd'', hoo'', hs'.trans hs''⟩
    · rintro b s' ⟨h', i, rfl, hr, hi, hd', hoo', hs'⟩
      have hin : i = eso.size := by
        rcases Nat.lt_or_ge i eso.size with h | h
        · have e : eso.size - i = (eso.size - (i + 1)) + 1 := by omega
          rw [e, List.range'_succ] at hr; exact nomatch hr
        · exact Nat.le_antisymm hi h
      refine wpAny_pure (hQ h' ?_ ⟨oo, eso, epo, hoo', hco, hdo', hko, hpo, hno⟩ hs')
      rw [hin, ← hlen, List.take_length] at hd'; exact hd'
  show wpAny _ _ (if esd.isEmpty = true then _ else _) _ _ _
  by_cases hemp : esd.isEmpty = true
  · rw [if_pos hemp]
    refine wpAny_bind (m := dictEntries o) (wpAny_dictEntries hoo hdo' ?_)
    refine wpAny_bind ?_
    rw [← Array.forIn_toList]
    refine wpAny_forIn_list _ (fun rest _ s' => s' = s ∧ ∀ e ∈ rest, e ∈ eso.toList) _ ?_ ?_ _ _ ⟨rfl, fun e he => he⟩
    · rintro x rest b s' ⟨rfl, hr⟩
      have hm := hr x List.mem_cons_self
      obtain ⟨k', hkey', _⟩ := hko x (by simpa using hm)
      have nr := mix_noref hkey'
      cases hx : x.key with
      | ref a => exact absurd hx (nr a)
      | _ => exact wpAny_pure ⟨rfl, fun e he => hr e (List.mem_cons_of_mem _ he)⟩
    · rintro b s' ⟨rfl, _⟩
      exact loop
  · rw [if_neg hemp]
    exact loop
end
end FsD

set_option Elab.async false
set_option linter.all false
set_option maxRecDepth 100000
set_option maxHeartbeats 2000000
namespace FsD
open PySem PySem.Spec PyProof.Rows L2 Evl
theorem disp_1 {va vk vv : Sem Value} : dictDisplay [(none, va), (some vk, vv)] = (do
      let x ← alloc { cls := Value.type "dict", data := Data.dict #[] }
      let x_1 ← holding [Value.ref x] va
      (((holding [Value.ref x, x_1] (mergeMapping x x_1 false)).onRaise fun x_2 => do
                  let _ ← holding [Value.ref x, x_1, x_2] (runValue (Code.builtin "proto.let_go" { }))
                  pure ()).tryCatch
              fun e => do
              let b ← isInstance e (Value.type "AttributeError")
              if b = true then do
                  rule "dict.display.not-a-mapping"
                  let nm ← typeNameOf x_1
                  raiseErrorMade "TypeError"
                      (toString "'" ++ toString nm ++ toString "' object is not a mapping")
                  throw e
                else throw e).onRaise
          fun x_2 => do
          let _ ← holding [Value.ref x, x_2] (runValue (Code.builtin "proto.let_go" { }))
          pure ()
      let x_3 ← holding [Value.ref x] (subDict [(vk, vv)])
      (holding [Value.ref x, Value.ref x_3] (mergeMapping x (Value.ref x_3) false)).onRaise fun x_4 => do
          let _ ← holding [Value.ref x, x_4] (runValue (Code.builtin "proto.let_go" { }))
          pure ()
      pure (Value.ref x)) := by
  unfold dictDisplay
  dsimp only
  simp only [List.forIn_cons, List.forIn_nil, List.isEmpty_nil, if_true, pure_bind, bind_assoc, List.nil_append, List.length_singleton, List.isEmpty_cons, Bool.false_eq_true, if_false, show ((1 : Nat) == 17) = false from rfl]
theorem disp_2 {va vb : Sem Value} : dictDisplay [(none, va), (none, vb)] = (do
      let x ← alloc { cls := Value.type "dict", data := Data.dict #[] }
      let x_1 ← holding [Value.ref x] va
      (((holding [Value.ref x, x_1] (mergeMapping x x_1 false)).onRaise fun x_2 => do
                  let _ ← holding [Value.ref x, x_1, x_2] (runValue (Code.builtin "proto.let_go" { }))
                  pure ()).tryCatch
              fun e => do
              let b ← isInstance e (Value.type "AttributeError")
              if b = true then do
                  rule "dict.display.not-a-mapping"
                  let nm ← typeNameOf x_1
                  raiseErrorMade "TypeError"
                      (toString "'" ++ toString nm ++ toString "' object is not a mapping")
                  throw e
                else throw e).onRaise
          fun x_2 => do
          let _ ← holding [Value.ref x, x_2] (runValue (Code.builtin "proto.let_go" { }))
          pure ()
      let x_1 ← holding [Value.ref x] vb
      (((holding [Value.ref x, x_1] (mergeMapping x x_1 false)).onRaise fun x_2 => do
                  let _ ← holding [Value.ref x, x_1, x_2] (runValue (Code.builtin "proto.let_go" { }))
                  pure ()).tryCatch
              fun e => do
              let b ← isInstance e (Value.type "AttributeError")
              if b = true then do
                  rule "dict.display.not-a-mapping"
                  let nm ← typeNameOf x_1
                  raiseErrorMade "TypeError"
                      (toString "'" ++ toString nm ++ toString "' object is not a mapping")
                  throw e
                else throw e).onRaise
          fun x_2 => do
          let _ ← holding [Value.ref x, x_2] (runValue (Code.builtin "proto.let_go" { }))
          pure ()
      pure (Value.ref x)) := by
  unfold dictDisplay
  dsimp only
  simp only [List.forIn_cons, List.forIn_nil, List.isEmpty_nil, if_true, pure_bind, bind_assoc, List.nil_append, List.length_singleton, List.isEmpty_cons, Bool.false_eq_true, if_false, show ((1 : Nat) == 17) = false from rfl]
/-- {**a, k: v} -/
def tStar1 (ta tk tv : TE) : TE := fun σ H Q => ∀ d, H d = none → ta σ (upd H d (.dK [])) fun x H1 => ∃ (a : Addr) (kvs : List (Key × V)), x = .ref a ∧ a ≠ d ∧ H1 d = some (.dK []) ∧ H1 a = some (.dK kvs) ∧ kvs.length ≤ 10000 ∧
  ∀ p, H1 p = none → tk σ (upd (upd H1 d (.dK (mergeK [] kvs))) p (.dK [])) fun kx H3 => tv σ H3 fun vx H4 => ∃ key, kx = kV key ∧ H4 p = some (.dK []) ∧ H4 d = some (.dK (mergeK [] kvs)) ∧
    Q (.ref d) (upd (upd H4 p (.dK (mergeK [] [(key, vx)]))) d (.dK (mergeK (mergeK [] kvs) (mergeK [] [(key, vx)]))))
section
variable {X : Cx} {ea eb ek ev : Expr} {ta tb tk tv : TE} {pos : Pos}
theorem merge_step {pins : List (Addr × Obj)} {σ : L2.St} {H : Hp} {s : Shared} {d a : Addr} {kvs more : List (Key × V)} {A : Around} {E : Value → Shared → Prop} {Q : Unit → Shared → Prop} (I : Inv X pins σ H s) (hne : a ≠ d) (hd : H d = some (.dK kvs)) (ha : H a = some (.dK more)) (hz : kvs.length + more.length ≤ 20000)
    (k : ∀ s', Inv X pins σ (upd H d (.dK (mergeK kvs more))) s' → Q () s') : wpAny (model X.prog X.w) A (mergeMapping d (.ref a) false) Q E s := by
  obtain ⟨z1, y1, v1, r1, d1⟩ := dk_of I.hok hd
  obtain ⟨z2, y2, v2, r2, d2⟩ := dk_of I.hok ha
  have hl : v1.length + v2.length ≤ sizeLine := by
    rw [← r1.length, ← r2.length, sizeLine_eq]
    omega
  refine mergeMap (Ne.symm hne) y2 d1 d2 (fun h' dd' _ hs => ?_) hl
  have he : ∃ q, h'.get? d = some q := let ⟨q, _, _, hq, _⟩ := dd'; ⟨q, hq⟩
  refine k _ (d_write I (by rw [hd]; exact True.intro) hs he (dk_new ?_ y1 (r2.merge r1) dd'))
  have := length_mergeK more kvs
  rw [sizeLine_eq]
  omega
theorem pe_star1 (ha : PE X ea ta) (hk : PE X ek tk) (hv : PE X ev tv) : PE X (.Dict [none, some ek] [ea, ev] pos) (tStar1 ta tk tv) := by
  refine ⟨fun pins s σ H Q I q => ?_⟩
  rw [arm_eval_Dict]
  refine wpAny_bind (wpAny_standAt ?_)
  show wpAny _ _ (dictDisplay [(none, (do let x ← eval ea X.env; standAt pos; pure x)), (some (eval ek X.env), (do let x ← eval ev X.env; standAt pos; pure x))]) _ _ _
  rw [disp_1]
  have hn := I.hok.fresh (Nat.le_refl s.heap.objs.size)
  refine wpAny_bind (wpAny_alloc ?_)
  have I1 := I.laid (a := s.heap.objs.size) (o := .dK []) (h' := s.heap.push { cls := .type "dict", data := .dict #[] }) (t' := s.toks) (fun _ _ q => Heap.get?_push_of_some _ q) (Nat.le_refl _) (dk_empty s.heap I.big)
  refine wpAny_bind (wpAny_holding (wpAny_bind (thn (ha.run pins _ σ _ _ I1 (q _ hn)) fun v s2 ⟨x, H1, I2, rx, a, kvs, ex, hne, hd, hka, hz, q2⟩ => wpAny_bind (wpAny_standAt (wpAny_pure ?_)))))
  subst ex
  obtain rfl : v = Value.ref a := rx
  refine wpAny_bind (wpAny_onRaise (wpAny_tryCatch (wpAny_onRaise (wpAny_holding (merge_step I2 hne hd hka (by rw [List.length_nil]; omega) (fun s3 I3 => ?_))))))
  have hn3 := I3.hok.fresh (Nat.le_refl s3.heap.objs.size)
  have hn1 : H1 s3.heap.objs.size = none := by
    by_cases e : s3.heap.objs.size = s.heap.objs.size
    · rw [e, upd_same] at hn3
      cases hn3
    · rw [upd_ne e] at hn3
      exact hn3
  have I4 := I3.laid (a := s3.heap.objs.size) (o := .dK []) (h' := s3.heap.push { cls := .type "dict", data := .dict #[] }) (t' := s3.toks) (fun _ _ q => Heap.get?_push_of_some _ q) (Nat.le_refl _) (dk_empty s3.heap I3.big)
  refine wpAny_bind (wpAny_holding (wpAny_subDict (knd := mixKind X.prog X.w) (by show 1 ≤ 15; decide) ?_))
  refine evalPairs_cons (thn (hk.run pins _ σ _ _ I4 (q2 _ hn1)) fun kx s5 ⟨kv, H3, I5, rk, q3⟩ => ?_)
  refine wpAny_bind (thn (hv.run pins _ σ _ _ I5 q3) fun vx s6 ⟨vv, H4, I6, rv, key, ek, hp6, hd6, q6⟩ => wpAny_bind (wpAny_standAt (wpAny_pure ?_)))
  refine evalPairs_nil ?_
  subst ek
  obtain ⟨zp, yp, vp, rp, dp⟩ := dk_of I6.hok hp6
  cases rp
  have hkv : VV ([(key, vv)].map fun kv => (kV kv.1, kv.2)) [(kx, vx)] := .cons ⟨rk, rv⟩ .nil
  obtain ⟨rs, c, rr⟩ := carries_of (P := X.prog) (w := X.w) hkv
  refine ⟨rs, c, dp, fun h' dd' hs => ?_⟩
  have he : ∃ q, h'.get? s3.heap.objs.size = some q := let ⟨q, _, _, hq, _⟩ := dd'; ⟨q, hq⟩
  have hz1 : (mergeK [] [(key, vv)]).length ≤ 1 := by
    have := length_mergeK [(key, vv)] []
    exact this
  have I7 := d_write (t' := s6.toks + [(kx, vx)].length) I6 (by rw [hp6]; exact True.intro) hs he (dk_new (by rw [sizeLine_eq]; omega) yp (rr.merge .nil) dd')
  have hpd : s3.heap.objs.size ≠ s.heap.objs.size := fun e => by
    rw [e, upd_same] at hn3
    cases hn3
  have hzk := length_mergeK kvs []
  rw [List.length_nil] at hzk
  refine wpAny_bind (wpAny_onRaise (wpAny_holding (merge_step I7 hpd (by rw [upd_ne hpd.symm]; exact hd6) upd_same (by omega) (fun s8 I8 => ?_))))
  exact wpAny_pure ⟨.ref s.heap.objs.size, _, I8, rfl, q6⟩
/-- {**a, **b} -/
def tStar2 (ta tb : TE) : TE := fun σ H Q => ∀ d, H d = none → ta σ (upd H d (.dK [])) fun x H1 => ∃ (a : Addr) (kvs : List (Key × V)), x = .ref a ∧ a ≠ d ∧ H1 d = some (.dK []) ∧ H1 a = some (.dK kvs) ∧ kvs.length ≤ 5000 ∧
  tb σ (upd H1 d (.dK (mergeK [] kvs))) fun y H2 => ∃ (b : Addr) (more : List (Key × V)), y = .ref b ∧ b ≠ d ∧ H2 d = some (.dK (mergeK [] kvs)) ∧ H2 b = some (.dK more) ∧ more.length ≤ 5000 ∧ Q (.ref d) (upd H2 d (.dK (mergeK (mergeK [] kvs) more)))
theorem pe_star2 (ha : PE X ea ta) (hb : PE X eb tb) : PE X (.Dict [none, none] [ea, eb] pos) (tStar2 ta tb) := by
  refine ⟨fun pins s σ H Q I q => ?_⟩
  rw [arm_eval_Dict]
  refine wpAny_bind (wpAny_standAt ?_)
  show wpAny _ _ (dictDisplay [(none, (do let x ← eval ea X.env; standAt pos; pure x)), (none, (do let x ← eval eb X.env; standAt pos; pure x))]) _ _ _
  rw [disp_2]
  have hn := I.hok.fresh (Nat.le_refl s.heap.objs.size)
  refine wpAny_bind (wpAny_alloc ?_)
  have I1 := I.laid (a := s.heap.objs.size) (o := .dK []) (h' := s.heap.push { cls := .type "dict", data := .dict #[] }) (t' := s.toks) (fun _ _ q => Heap.get?_push_of_some _ q) (Nat.le_refl _) (dk_empty s.heap I.big)
  refine wpAny_bind (wpAny_holding (wpAny_bind (thn (ha.run pins _ σ _ _ I1 (q _ hn)) fun v s2 ⟨x, H1, I2, rx, a, kvs, ex, hne, hd, hka, hz, q2⟩ => wpAny_bind (wpAny_standAt (wpAny_pure ?_)))))
  subst ex
  obtain rfl : v = Value.ref a := rx
  refine wpAny_bind (wpAny_onRaise (wpAny_tryCatch (wpAny_onRaise (wpAny_holding (merge_step I2 hne hd hka (by rw [List.length_nil]; omega) (fun s3 I3 => ?_))))))
  refine wpAny_bind (wpAny_holding (wpAny_bind (thn (hb.run pins _ σ _ _ I3 q2) fun v s4 ⟨y, H4, I4, ry, b, more, ey, hne2, hd2, hkb, hz2, q4⟩ => wpAny_bind (wpAny_standAt (wpAny_pure ?_)))))
  subst ey
  obtain rfl : v = Value.ref b := ry
  have hzk := length_mergeK kvs []
  rw [List.length_nil] at hzk
  refine wpAny_bind (wpAny_onRaise (wpAny_tryCatch (wpAny_onRaise (wpAny_holding (merge_step I4 hne2 hd2 hkb (by omega) (fun s5 I5 => ?_))))))
  exact wpAny_pure ⟨.ref s.heap.objs.size, _, I5, rfl, q4⟩
end
/-! read with Ev -/
theorem mergeK_ap : ∀ {more acc : List (Key × V)}, ((acc ++ more).map (·.1)).Nodup → mergeK acc more = acc ++ more
  | [], acc, _ => by rw [List.append_nil]; rfl
  | (k, v) :: more, acc, h => by
    have hk : valV acc k = none := by
      cases e : valV acc k with
      | none => rfl
      | some x =>
        exfalso
        have : k ∈ acc.map (·.1) := by
          clear h
          induction acc with
          | nil => cases e
          | cons p acc ih =>
            by_cases hp : p.1 = k
            · rw [List.map_cons, hp]
              exact List.mem_cons_self ..
            · rw [valV_neg hp] at e
              exact List.mem_cons_of_mem _ (ih e)
        rw [List.map_append, List.nodup_append] at h
        exact h.2.2 k this k (by rw [List.map_cons]; exact List.mem_cons_self ..) rfl
    show mergeK (putK acc k v) more = _
    rw [putK_new v hk, mergeK_ap (by rw [List.append_assoc]; exact h), List.append_assoc]
    rfl
theorem mergeK_nil {kvs : List (Key × V)} (h : (kvs.map (·.1)).Nodup) : mergeK [] kvs = kvs := mergeK_ap (acc := []) h
/-- a new dict -/
def EvD (te : TE) (σ : L2.St) (H : Hp) (kvs : List (Key × V)) : Prop := ∀ H1, Ex H H1 → ∀ Q : VK, (∀ p H2, H1 p = none → Ex H1 H2 → H2 p = some (.dK kvs) → Q (.ref p) H2) → te σ H1 Q
section
variable {σ : L2.St} {H : Hp} {ta tb tk tv : TE}
theorem ed_star1 {a : Addr} {kvs : List (Key × V)} {key : Key} {v : V} (ha : Ev ta σ H (.ref a)) (h : H a = some (.dK kvs)) (nd : (kvs.map (·.1)).Nodup) (hz : kvs.length ≤ 10000) (hk : Ev tk σ H (kV key)) (hv : Ev tv σ H v) : EvD (tStar1 ta tk tv) σ H (putK kvs key v) := fun H1 e Q q => fun d hd => by
  have x1 : Ex H1 (upd H1 d (.dK [])) := Ex.new hd
  refine ha _ (e.trans x1) _ fun H2 e2 => ?_
  have had : a ≠ d := ne_of_none (e _ _ h) hd
  have hd2 : H2 d = some (.dK []) := e2 _ _ upd_same
  have ha2 : H2 a = some (.dK kvs) := (x1.trans e2) _ _ (e _ _ h)
  refine ⟨a, kvs, rfl, had, hd2, ha2, hz, fun p hp => ?_⟩
  have x3 : Ex H1 (upd (upd H2 d (.dK (mergeK [] kvs))) p (.dK [])) := (Ex.mut (x1.trans e2) hd).trans (Ex.new (by
    rw [upd_ne (Ne.symm (ne_of_none hd2 hp))]
    exact hp))
  refine hk _ (e.trans x3) _ fun H4 e4 => hv H4 ((e.trans x3).trans e4) _ fun H5 e5 => ?_
  have hpd : p ≠ d := Ne.symm (ne_of_none hd2 hp)
  refine ⟨key, rfl, (e4.trans e5) _ _ upd_same, (e4.trans e5) _ _ (by rw [upd_ne hpd.symm]; exact upd_same), ?_⟩
  rw [mergeK_nil nd]
  refine q d _ hd ?_ upd_same
  refine Ex.mut (Ex.mut ((x3.trans e4).trans e5) ?_) hd
  exact fresh_back (x1.trans e2) hp
end
end FsD

set_option Elab.async false
set_option linter.all false
set_option maxRecDepth 100000
set_option maxHeartbeats 2000000
/-! two sorted lists of the same texts are one -/
namespace FsU
open PySem PySem.Spec PyProof.Rows
def leS (x y : Str) : Prop := ltCps y.cps.toList x.cps.toList = false
theorem leS_iff {x y : Str} : leS x y ↔ x.cps.toList ≤ y.cps.toList := by
  unfold leS
  rw [ltCps_eq, decide_eq_false_iff_not]
  exact List.not_lt
theorem leS_trans {x y z : Str} (h : leS x y) (g : leS y z) : leS x z := leS_iff.mpr (List.le_trans (leS_iff.mp h) (leS_iff.mp g))
theorem leS_anti {x y : Str} (h : leS x y) (g : leS y x) : x = y := by
  have e := List.le_antisymm (leS_iff.mp h) (leS_iff.mp g)
  cases x with
  | mk a =>
    cases y with
    | mk b =>
      have : a = b := Array.toList_inj.mp e
      rw [this]
theorem leS_refl (x : Str) : leS x x := leS_iff.mpr (List.le_refl _)
theorem rising_pw : ∀ {l : List Str} {p : Str}, risingS p l = true → (p :: l).Pairwise leS
  | [], p, _ => List.pairwise_singleton _ _
  | x :: l, p, h => by
    obtain ⟨h1, h2⟩ := Bool.and_eq_true_iff.mp (show (!ltCps x.cps.toList p.cps.toList && risingS x l) = true from h)
    have ih := rising_pw h2
    have hp : leS p x := by
      unfold leS
      simpa using h1
    refine List.pairwise_cons.mpr ⟨fun y hy => ?_, ih⟩
    rcases List.mem_cons.mp hy with rfl | hy
    · exact hp
    · exact leS_trans hp ((List.pairwise_cons.mp ih).1 y hy)
theorem sorted_pw {l : List Str} (h : sortedS l = true) : l.Pairwise leS := by
  cases l with
  | nil => exact .nil
  | cons x l => exact rising_pw h
theorem pw_uniq : ∀ {l m : List Str}, l.Pairwise leS → m.Pairwise leS → l.Perm m → l = m
  | [], m, _, _, h => (List.Perm.nil_eq h)
  | x :: l, m, hl, hm, h => by
    cases m with
    | nil => exact absurd h.length_eq (by simp)
    | cons y m =>
      have hx : x = y := by
        have h1 : x ∈ y :: m := h.subset (List.mem_cons_self ..)
        have h2 : y ∈ x :: l := h.symm.subset (List.mem_cons_self ..)
        rcases List.mem_cons.mp h1 with e | h1
        · exact e
        · rcases List.mem_cons.mp h2 with e | h2
          · exact e.symm
          · exact leS_anti ((List.pairwise_cons.mp hl).1 y h2) ((List.pairwise_cons.mp hm).1 x h1)
      subst hx
      rw [pw_uniq (List.pairwise_cons.mp hl).2 (List.pairwise_cons.mp hm).2 (List.Perm.cons_inv h)]
theorem sorted_uniq {l m k : List Str} (hl : sortedS l = true) (hm : sortedS m = true) (p : l.Perm k) (q : m.Perm k) : l = m := pw_uniq (sorted_pw hl) (sorted_pw hm) (p.trans q.symm)
end FsU

set_option Elab.async false
set_option linter.all false
set_option maxRecDepth 100000
set_option maxHeartbeats 2000000
/-! o[i] and len(o) by an own class's __getitem__ and __len__; d.update(e); a statement that is never met. -/
namespace FsR
open PySem PySem.Spec PyProof.Rows L2
theorem run_atS {X : Cx} {CX : CXT} {k : Nat} {f : Addr} {fd : FuncData} {ps : List Str} {sp : Sp} {E : L2.St → XK} {pins : List (Addr × Obj)} {σ : L2.St} {H : Hp} {s : Shared} {Q : VK} {us : List Value} {vs : List V} {A : Around} (F : FnOk X.prog X.w X.K X.mg X.base CX k f fd ps sp) (hr : Room k A)
    (he : Env0 X.prog X.w X.K X.mg X.base A X.stack s H) (hb : Binds X.K fd ps []) (hx : PassesAt CX X σ (E σ))
    (I : Inv X pins σ H s) (r : Vals vs us) (h : sp vs H Q (E σ)) : wpAny (model X.prog X.w) A (call (.ref f) us) (EP X pins σ Q) X.xe s := by
  have hl : us.length = ps.length := by rw [← r.length]; exact F.len _ _ _ _ h
  have b := hb s us I.kIn (by rw [List.append_nil]; exact hl)
  rw [List.append_nil] at b
  refine wpAny_call (codeAny_mono (F.run A X.stack s H ⟨us, []⟩ us vs Q (E σ) hr he b r h) fun r s' hq => ?_)
  cases r with
  | error e => exact hx pins H s e s' I hq
  | ok fl =>
    cases fl with
    | ret u => exact I.after hq
    | next => exact False.elim hq
    | brk => exact False.elim hq
    | cont => exact False.elim hq
structure IxM (K : PySem.W.Frag) (C : Addr) (g : Addr) : Prop where
  at_ : PySem.W.findIn K (.ref C) "__getitem__" = some (some (.ref g))
  fn : PySem.W.isFn K (.ref g) = true
  fi : PySem.W.fnIn K g = true
/-- o[i] -/
def tIxO (C : Addr) (sp : Sp) (E : L2.St → XK) (ta tb : TE) : TE := fun σ H Q => ta σ H fun x H1 => tb σ H1 fun y H2 => ∃ (a dx : Addr) (fs : List (Str × V)), x = .ref a ∧ H2 a = some (.ins C dx fs) ∧ sp [.ref a, y] H2 Q (E σ)
theorem pe_ixO {X : Cx} {CX : CXT} {k : Nat} {C g : Addr} {fd : FuncData} {ps : List Str} {sp : Sp} {E : L2.St → XK} {ea eb : Expr} {pos : Pos} {ta tb : TE} (ha : PE X ea ta) (hb : PE X eb tb) (M : IxM X.K C g) (F : FnOk X.prog X.w X.K X.mg X.base CX k g fd ps sp) (hr : Room (k + 1) X.A) (hd : Binds X.K fd ps [])
    (hx : ∀ σ, PassesAt CX X σ (E σ)) (hsl : ∀ v i, subscripted eb true v i = runValue (.builtin "lifetime.subscript" ⟨[v, i], []⟩) := by intro _ _; with_unfolding_all rfl) : PE X (.Subscript ea eb pos) (tIxO C sp E ta tb) := by
  refine ⟨fun pins s σ H Q I h => ?_⟩
  refine Subscript_ (binT ha hb I h fun v u s2 x y H2 I2 rx ry q => ?_)
  obtain ⟨a, dx, fs, rfl, h1, q⟩ := q
  obtain rfl : v = Value.ref a := rx
  obtain ⟨_, O1, _, _, _, _⟩ := ins_get I2.hok h1
  obtain ⟨_, i1, _⟩ := O1.look
  obtain ⟨m, fr⟩ := I2.fr
  refine PySem.W.sub_K fr I2.ok.mod.kin i1 M.at_ M.fi M.fn ?_ (hsl _ _)
  exact run_atS (us := [.ref a, u]) (vs := [.ref a, y]) F hr.in1 I2.env0.in1 hd (hx σ) I2 (.cons rfl (.cons ry .nil)) q
structure LenM (K : PySem.W.Frag) (C : Addr) (g : Addr) : Prop where
  at_ : PySem.W.findIn K (.ref C) "__len__" = some (some (.ref g))
  fn : PySem.W.isFn K (.ref g) = true
/-- len(o) -/
def rLenO (C : Addr) (sp : Sp) (E : XK) : List V → Hp → VK → Prop := fun xs H Q => ∃ (a dx : Addr) (fs : List (Str × V)), xs = [.ref a] ∧ H a = some (.ins C dx fs) ∧ sp [.ref a] H (fun v H' => ∃ n : Nat, v = .int (n : Int) ∧ (n : Int) < 2 ^ 63 ∧ Q (.int (n : Int)) H') E
theorem call_lenO {X : Cx} {CX : CXT} {k : Nat} {C g : Addr} {fd : FuncData} {ps : List Str} {sp : Sp} {E : XK} (M : LenM X.K C g) (F : FnOk X.prog X.w X.K X.mg X.base CX k g fd ps sp) (hr : Room (k + 1) X.A) (hd : Binds X.K fd ps [])
    (hx : ∀ σ, PassesAt CX X σ E) : CallR X (.builtin "len") (rLenO C sp E) := by
  intro pins s σ H xs us Q I r h
  obtain ⟨a, dx, fs, rfl, h1, q⟩ := h
  obtain ⟨u, rfl, ru⟩ := vals1 r
  obtain rfl : u = Value.ref a := ru
  obtain ⟨_, O1, _, _, _, _⟩ := ins_get I.hok h1
  obtain ⟨_, i1, _⟩ := O1.look
  obtain ⟨m, fr⟩ := I.fr
  refine PySem.W.len_K fr I.ok.mod.kin i1 M.at_ M.fn (wpAny_mono (run_atS (E := fun _ => E) (us := [.ref a]) (vs := [.ref a]) F hr.in1 I.env0.in1 hd (hx σ) I (.cons rfl .nil) q) (fun w s' z => ?_) fun _ _ x => x)
  obtain ⟨v, H', J, rv, n, ev, hn, q'⟩ := z
  subst ev
  obtain ⟨t, rfl⟩ := rv
  exact ⟨⟨by omega, hn⟩, .int (n : Int), H', J.tok _, ⟨_, rfl⟩, q'⟩
/-- d.update(e) -/
def rUpd : V → List V → Hp → VK → Prop := fun x vs H Q => ∃ (d o : Addr) (kvs more : List (Key × V)), x = .ref d ∧ vs = [.ref o] ∧ d ≠ o ∧ H d = some (.dK kvs) ∧ H o = some (.dK more) ∧ kvs.length + more.length ≤ 100000 ∧ Q .non (upd H d (.dK (mergeK kvs more)))
theorem mt_update {X : Cx} : MtR X "dict.update" rUpd := by
  intro pins s σ H x xs v us Q I rx rv h
  obtain ⟨d, o, kvs, more, rfl, rfl, hne, hd, ho, hz, q⟩ := h
  obtain rfl : v = Value.ref d := rx
  obtain ⟨u, rfl, ru⟩ := vals1 rv
  obtain rfl : u = Value.ref o := ru
  obtain ⟨z1, y1, v1, r1, d1⟩ := dk_of I.hok hd
  obtain ⟨z2, y2, v2, r2, d2⟩ := dk_of I.hok ho
  have hl : v1.length + v2.length ≤ sizeLine := by
    rw [← r1.length, ← r2.length, sizeLine_eq]
    omega
  refine call_meetsIn PySem.F.slot_dict_update d1.typeIs PySem.F.entry_dict_update (PySem.F.args_dict_update_2 _ _) (meets_dict_update (mixKind X.prog X.w) d o hne y2)
    ⟨v1, v2, d1, d2, hl, fun h' dd' _ hs => ?_⟩
  have he : ∃ q, h'.get? d = some q := let ⟨q, _, _, hq, _⟩ := dd'; ⟨q, hq⟩
  refine ⟨.non, _, d_write I (by rw [hd]; exact True.intro) hs he (dk_new ?_ y1 (r2.merge r1) dd'), rfl, q⟩
  have := length_mergeK more kvs
  rw [sizeLine_eq]
  omega
end FsR

set_option Elab.async false
set_option linter.all false
set_option maxRecDepth 100000
set_option maxHeartbeats 2000000
/-! What is made of a list or a tuple; tuples put together. -/
namespace FsA
open PySem L2 Evl FsE FsC FsR Fs
def SqA (K : PySem.W.Frag) (H : Hp) (l : Addr) (xs : List V) : Prop := SqL K H l xs ∨ H l = some (.tup xs)
theorem SqA.ex {K : PySem.W.Frag} {H H' : Hp} (e : Ex H H') {l : Addr} {xs : List V} (h : SqA K H l xs) : SqA K H' l xs := h.elim (fun z => .inl (ex_l e z)) fun z => .inr (e _ _ z)
/-- a list or tuple -/
def EvSeq (K : PySem.W.Frag) (te : TE) (σ : L2.St) (H : Hp) (xs : List V) : Prop := ∀ H1, Ex H H1 → ∀ Q : VK, (∀ p H2, Ex H1 H2 → SqA K H2 p xs → Q (.ref p) H2) → te σ H1 Q
/-- a tuple -/
def EvQ (te : TE) (σ : L2.St) (H : Hp) (xs : List V) : Prop := ∀ H1, Ex H H1 → ∀ Q : VK, (∀ p H2, Ex H1 H2 → H2 p = some (.tup xs) → Q (.ref p) H2) → te σ H1 Q
section
variable {σ : L2.St} {H : Hp} {te ta tb : TE} {K : PySem.W.Frag} {C : Addr} {xs ys : List V}
theorem eq_l (h : EvL te σ H xs) : EvSeq K te σ H xs := fun H1 e Q q => h H1 e _ fun p H2 _ e2 h2 => q p H2 e2 (.inl (sq_of h2))
theorem eq_v {p : Addr} (h : Ev te σ H (.ref p)) (hp : SqA K H p xs) : EvSeq K te σ H xs := fun H1 e Q q => h H1 e _ fun H2 e2 => q p H2 e2 (hp.ex (e.trans e2))
theorem eq_q (h : EvQ te σ H xs) : EvSeq K te σ H xs := fun H1 e Q q => h H1 e _ fun p H2 e2 h2 => q p H2 e2 (.inr h2)
theorem s_fldQ {tv ta : TE} {a dx : Addr} {fs : List (Str × V)} {f : Str} {D : Ends} (hv : EvQ tv σ H xs) (ho : ∀ H1, Ex H H1 → Ev ta σ H1 (.ref a)) (hi : H a = some (.ins C dx fs)) (cl : Cls K C) (n : NoAttr K C f) (hl : fs.length < 1000)
    (k : ∀ t H1, t ≠ a → Ex H H1 → H1 t = some (.tup xs) → D.nx σ (upd H1 a (.ins C dx (putF f (.ref t) fs)))) : sFld K ta tv f D σ H :=
  hv H (Ex.refl H) _ fun t H1 e1 h1 => ho H1 e1 H1 (Ex.refl H1) _ fun H2 e2 => ⟨a, C, dx, fs, rfl, (e1.trans e2) _ _ hi, cl, n, hl, k t H2 (fun z => by
    subst z
    rw [e1 _ _ hi] at h1
    cases h1) (e1.trans e2) (e2 _ _ h1)⟩
/-- tuple(xs), xs a list or tuple -/
theorem eq_tup {l : Addr} (h : Ev te σ H (.ref l)) (hl : SqA K H l xs) : EvQ (tCB (fun xs H Q => ∃ p ys, xs = [V.ref p] ∧ ((SqL K H p ys ∧ ∀ l, H l = none → Q (.ref l) (upd H l (.tup ys))) ∨ (SqT K H p ys ∧ Q (.ref p) H))) (tCons te tNil)) σ H xs := fun H1 e Q q =>
  h H1 e _ fun H2 e2 => ⟨l, xs, rfl, by
    rcases hl with hl | hl
    · exact .inl ⟨ex_l (e.trans e2) hl, fun p hp => q p _ (e2.trans (Ex.new hp)) upd_same⟩
    · exact .inr ⟨st_of ((e.trans e2) _ _ hl), q l H2 e2 ((e.trans e2) _ _ hl)⟩⟩
theorem eq_cat (ha : EvQ ta σ H xs) (hb : EvQ tb σ H ys) (hz : xs.length + ys.length ≤ 100000) : EvQ (tOp (rCatA K) ta tb) σ H (xs ++ ys) := fun H1 e Q q =>
  ha H1 e _ fun p H2 e2 h2 => hb H2 (e.trans e2) _ fun r H3 e3 h3 => by
    have k2 := e3 _ _ h2
    refine ⟨p, r, xs, ys, rfl, rfl, st_of k2, st_of h3, sz_of (by omega), fun z => ?_, fun _ z => ?_, fun _ _ u hu => ?_⟩
    · subst z
      exact q r H3 (e2.trans e3) h3
    · subst z
      exact q p H3 (e2.trans e3) (by rw [List.append_nil]; exact k2)
    · exact q u _ ((e2.trans e3).trans (Ex.new hu)) upd_same
theorem eq_u (h : EvU te σ H xs) : EvQ te σ H xs := fun H1 e Q q => h H1 e _ fun p H2 _ e2 h2 => q p H2 e2 h2
end
end FsA

set_option Elab.async false
set_option linter.all false
set_option maxRecDepth 100000
set_option maxHeartbeats 4000000
/-! an error that tells a name -/
namespace Fs
open PySem PySem.Spec PyProof.Rows L2 FsBname
theorem raises_nm {P : Program} {w : World} {K : PySem.W.Frag} {mg : Str → Option Value} {base : Heap} {x : Str} {C fI : Addr} {k : Nat} (hdb : (x == ("__debug__" : Str)) = false) (T : FsBname.ErrTxt P K mg x C fI) : RaisesX P w K mg base x C "name" k := by
  intro X eP ew eK em eb hr a ta p pos ha hg he hpl pins s σ H Q I h
  subst eP ew eK em eb
  refine wpAny_Call_Name_kw (ld_glob I hg T.gC ?_ hdb)
  refine PySem.W.callWith_K (h₀ := X.base) I.ok.mod.kin T.kC (thn (ha.run pos pins s σ H _ I h) fun us s1 ⟨vs, H1, I1, r1, z, ev, hz, q1⟩ => ?_) he hpl
  subst ev
  refine ⟨I1.kIn, ?_⟩
  cases r1 with
  | cons rv rn =>
    cases rn
    obtain ⟨tk, rfl⟩ := rv
    show wpAny _ _ (call (.ref C) [.str z tk]) _ _ _
    have lim := I1.nolimit
    obtain ⟨mb, b1, b2⟩ := I1.ok.mod.blt
    have gl : s1.heap.Ns mainGlobals X.mg := I1.ok.mod.glob.keeps I1.bk
    have bl : ∃ mb, s1.heap.Ns builtinsNs mb ∧ mb "super" = some (.type "super") := ⟨mb, b1.keeps I1.bk, (b2 _ (by decide)).trans Boot.«super»⟩
    obtain ⟨g0, gs, dr, t, os⟩ := s1
    refine wpAny_call (FsBname.bt_made T I1.kIn gl bl lim (by have := hr.dp; omega) fun h' t' e d M => ?_)
    show MkP X pins σ Q (.ref e) ⟨h', gs, dr, t', os⟩
    obtain ⟨t1, ho⟩ := M.obj
    obtain ⟨G', ge1, ge2⟩ := restrict h' fun b => decide (b ≠ e)
    have same : ∀ b, b ≠ e → G'.get? b = h'.get? b := fun b hb => ge1 b (decide_eq_true hb)
    have gone : G'.get? e = none := ge2 e (by simp)
    have old : ∀ b o, g0.get? b = some o → G'.get? b = some o := fun b o q => (same b (Nat.ne_of_lt (Nat.lt_of_lt_of_le (Heap.lt_size q) M.big))).trans (M.keep b o q)
    have ob : ObjOk X.prog X.w (upd H1 d (.xd [(("name" : Str), V.str z)])) G' d (.xd [(("name" : Str), V.str z)]) := ⟨_, M.ns.at (fun o q => (same d M.dne).trans q), fun f => FsBname.relO_one (v := V.str z) ⟨tk, rfl⟩ f⟩
    have J : Inv X pins σ (upd H1 d (.xd [(("name" : Str), V.str z)])) ⟨G', gs, dr, t', os⟩ := I1.laid (t' := t') old M.dbig ob
    refine ⟨e, _, _, ⟨G', gs, dr, t', os⟩, _, .ref C, some d, rfl, J, fun b o q => ?_, gone, ho, ⟨rfl, rfl⟩, rfl, rfl, ?_, rfl, I1.bare, raises_own T.exC T.tyC, q1 d (I1.hok.fresh M.dbig)⟩
    · by_cases hb : b = e
      · have q' : G'.get? b = some o := q
        rw [hb, gone] at q'
        cases q'
      · exact (same b hb).symm.trans q
    · rw [upd_ne (Ne.symm M.dne)]
      exact I1.hok.fresh M.big
end Fs
/-! books -/
namespace Fs
open PySem L2 Evl FsE FsC FsR FsA FsD FsU
/-- all but what stands at a stays -/
def ExB (a : Addr) (H H' : Hp) : Prop := ∀ c o, c ≠ a → H c = some o → H' c = some o
theorem ExB.of {a : Addr} {H H' : Hp} (e : Ex H H') : ExB a H H' := fun _ _ _ h => e _ _ h
theorem ExB.trans {a : Addr} {H H1 H2 : Hp} (e : ExB a H H1) (e' : ExB a H1 H2) : ExB a H H2 := fun c o hc h => e' c o hc (e c o hc h)
theorem ExB.upd {a : Addr} {H : Hp} {o : HO} : ExB a H (upd H a o) := fun c o' hc h => by rw [upd_ne hc]; exact h
/-- what is raised: the field f of CN -/
def BadF (CN : Addr) (f z : Str) (H : Hp) (E : XK) : Prop := ∀ (d : Addr) (H' : Hp), Ex H H' → H d = none → H' d = some (.xd [(f, .str z)]) → E (.ref CN) (some d) H'
theorem BadF.ex {CN : Addr} {f z : Str} {H H' : Hp} {E : XK} (e : Ex H H') (h : BadF CN f z H E) : BadF CN f z H' E := fun d H2 e2 hd h2 => h d H2 (e.trans e2) (fresh_back e hd) h2
def BkAt (CK : Addr) (H : Hp) (a : Addr) (kvs : List (Key × V)) : Prop := ∃ dx d, H a = some (.ins CK dx [("by_name", .ref d)]) ∧ H d = some (.dK kvs)
theorem BkAt.ex {CK : Addr} {H H' : Hp} (e : Ex H H') {a : Addr} {kvs : List (Key × V)} (h : BkAt CK H a kvs) : BkAt CK H' a kvs := by
  obtain ⟨dx, d, h1, h2⟩ := h
  exact ⟨dx, d, e _ _ h1, e _ _ h2⟩
theorem bk_lookup {d : Addr} : List.lookup ("by_name" : Str) [("by_name", V.ref d)] = some (.ref d) := by
  rw [List.lookup_cons, show (("by_name" : Str) == "by_name") = true from by decide +kernel]
theorem bk_put {d d' : Addr} : putF ("by_name" : Str) (.ref d') [(("by_name" : Str), V.ref d)] = [(("by_name" : Str), V.ref d')] := by
  show (if ("by_name" : Str) = "by_name" then (("by_name" : Str), V.ref d') :: [] else _) = _
  rw [if_pos rfl]
/-- a definition -/
def DfAt (CD : Addr) (H : Hp) (a : Addr) (ns : List Str) (b : Addr) : Prop := ∃ dx t, H a = some (.ins CD dx [("params", .ref t), ("body", .ref b)]) ∧ H t = some (.tup (ns.map V.str))
theorem DfAt.ex {CD : Addr} {H H' : Hp} (e : Ex H H') {a b : Addr} {ns : List Str} (h : DfAt CD H a ns b) : DfAt CD H' a ns b := by
  obtain ⟨dx, t, h1, h2⟩ := h
  exact ⟨dx, t, e _ _ h1, e _ _ h2⟩
theorem df_params {t b : Addr} : List.lookup ("params" : Str) [("params", V.ref t), ("body", .ref b)] = some (.ref t) := by
  rw [List.lookup_cons, show (("params" : Str) == "params") = true from by decide +kernel]
theorem df_body {t b : Addr} : List.lookup ("body" : Str) [("params", V.ref t), ("body", .ref b)] = some (.ref b) := by
  rw [List.lookup_cons, show (("body" : Str) == "params") = false from by decide +kernel, List.lookup_cons, show (("body" : Str) == "body") = true from by decide +kernel]
/-- what the text has told of books -/
structure BkT (K : PySem.W.Frag) (mg : Str → Option Value) (CK CB : Addr) : Prop where
  cl : Cls K CK
  nB : NoAttr K CK "by_name"
  mgK : mg "Book" = some (.ref CK)
  dict : mg "dict" = none
  len : mg "len" = none
  sorted : mg "sorted" = none
  most : GC mg "MOST_DEFINITIONS" (.int 12)
structure DfT (K : PySem.W.Frag) (mg : Str → Option Value) (CD : Addr) : Prop where
  cl : Cls K CD
  nP : NoAttr K CD "params"
  nB : NoAttr K CD "body"
  mgD : mg "Definition" = some (.ref CD)
  len : mg "len" = none
  tuple : mg "tuple" = none
  most : GC mg "MOST_PARAMS" (.int 4)
section
variable {σ : L2.St} {H : Hp} {te ta tb tv : TE} {K : PySem.W.Frag} {D : Ends} {tz : TS} {a : Addr} {kvs : List (Key × V)} {key : Key}
theorem ev_lenD {d : Addr} (h : Ev ta σ H (.ref d)) (hd : H d = some (.dK kvs)) : Ev (tCB (fun xs H Q => ∃ a kvs, xs = [V.ref a] ∧ H a = some (.dK kvs) ∧ Q (.int kvs.length) H) (tCons ta tNil)) σ H (.int (kvs.length : Int)) := fun H1 e Q q =>
  h H1 e _ fun H2 e2 => ⟨d, kvs, rfl, (e.trans e2) _ _ hd, q H2 e2⟩
theorem ev_din {d : Addr} (hk : Ev tb σ H (kV key)) (h : Ev ta σ H (.ref d)) (hd : H d = some (.dK kvs)) : Ev (tDIn tb ta) σ H (.bl (valV kvs key).isSome) := fun H1 e Q q =>
  hk H1 e _ fun H2 e2 => h H2 (e.trans e2) _ fun H3 e3 => ⟨d, _, rfl, DGet.k (((e.trans e2).trans e3) _ _ hd), q H3 (e2.trans e3)⟩
theorem et_dni {d : Addr} (hk : Ev tb σ H (kV key)) (h : Ev ta σ H (.ref d)) (hd : H d = some (.dK kvs)) : EvT (tB (tDNotIn tb ta)) σ H (!(valV kvs key).isSome) := fun H1 e Q q =>
  hk H1 e _ fun H2 e2 => h H2 (e.trans e2) _ fun H3 e3 => ⟨d, _, rfl, DGet.k (((e.trans e2).trans e3) _ _ hd), _, rfl, q H3 (e2.trans e3)⟩
theorem ev_dget {d : Addr} {v : V} (h : Ev ta σ H (.ref d)) (hk : Ev tb σ H (kV key)) (hd : H d = some (.dK kvs)) (hv : valV kvs key = some v) : Ev (tDGet ta tb) σ H v := fun H1 e Q q =>
  h H1 e _ fun H2 e2 => hk H2 (e.trans e2) _ fun H3 e3 => ⟨d, v, rfl, by
    have g := DGet.k (k := key) (((e.trans e2).trans e3) _ _ hd)
    rw [hv] at g
    exact g, q H3 (e2.trans e3)⟩
theorem s_fldD {C dx : Addr} {fs : List (Str × V)} {f : Str} (hv : EvD tv σ H kvs) (ho : ∀ H1, Ex H H1 → Ev ta σ H1 (.ref a)) (hi : H a = some (.ins C dx fs)) (cl : Cls K C) (n : NoAttr K C f) (hl : fs.length < 1000)
    (k : ∀ t H1, t ≠ a → Ex H H1 → H1 t = some (.dK kvs) → D.nx σ (upd H1 a (.ins C dx (putF f (.ref t) fs)))) : sFld K ta tv f D σ H :=
  hv H (Ex.refl H) _ fun t H1 ht e1 h1 => ho H1 e1 H1 (Ex.refl H1) _ fun H2 e2 => ⟨a, C, dx, fs, rfl, (e1.trans e2) _ _ hi, cl, n, hl, k t H2 (Ne.symm (ne_of_none hi ht)) (e1.trans e2) (e2 _ _ h1)⟩
/-- dict(()), dict(d) -/
theorem ed_dict {g : Addr} (h : Ev ta σ H (.ref g)) (hg : (Tup0 K g ∧ kvs = []) ∨ H g = some (.dK kvs)) : EvD (tCB (rDictA K) (tCons ta tNil)) σ H kvs := fun H1 e Q q =>
  h H1 e _ fun H2 e2 => by
    rcases hg with ⟨hg, rfl⟩ | hg
    · exact .inl ⟨g, rfl, hg, fun p hp => q p _ (fresh_back e2 hp) (e2.trans (Ex.new hp)) upd_same⟩
    · exact .inr ⟨g, kvs, rfl, .inl ((e.trans e2) _ _ hg), fun p hp => q p _ (fresh_back e2 hp) (e2.trans (Ex.new hp)) upd_same⟩
end
section
variable {P : Program} {w : World} {K : PySem.W.Frag} {mg : Str → Option Value} {base : Heap} {C CB CK CN CD : Addr}
theorem s_fldCall {σ : L2.St} {H : Hp} {D : Ends} {sp : Sp} {E : L2.St → XK} {t1 ta : TE} {f : Str} (h : t1 σ H fun x H1 => sp [x] H1 (fun v H2 => ta σ H2 fun o H3 => ∃ (a C dx : Addr) (fs : List (Str × V)), o = .ref a ∧ H3 a = some (.ins C dx fs) ∧ Cls K C ∧ NoAttr K C f ∧ fs.length < 1000 ∧ D.nx σ (upd H3 a (.ins C dx (putF f v fs)))) (E σ)) : sFld K ta (tCallS sp E (tCons t1 tNil)) f D σ H := h
/-- limited -/
def spLim (CB : Addr) : Sp := fun vs H Q E => ∃ (d : Addr) (kvs : List (Key × V)), vs = [.ref d] ∧ H d = some (.dK kvs) ∧ (kvs.length ≤ 12 → RetV (.ref d) H Q) ∧ (12 < kvs.length → Bad CB "definitions" H E)
theorem scLim : FnScope ["by_name"] ["by_name"] (defScope (topS 27)) := ⟨rfl, rfl, rfl, by decide +kernel, rfl, by decide +kernel, by decide +kernel⟩
theorem ok_lim {f : Addr} {fd : FuncData} {k : Nat} (F : Fun K "limited" "limited" (topS 27) f fd) (T : BkT K mg CK CB) (R : RaisesX P w K mg base "BadTerm" CB "field" k) : FnOk P w K mg base (L2.CX P w) (k + 1) f fd ["by_name"] (spLim CB) := by
  refine F.okX scLim (fun vs H Q E h => ?_) (fun cdv A outer s H vs Q E hr h => ?_)
  · obtain ⟨d, kvs, rfl, _⟩ := h
    rfl
  · obtain ⟨d, kvs, rfl, hd, q1, q2⟩ := h
    refine ⟨_, pss_cons (ps_if (pt_cmpR op_gt (pe_callB call_lenD (by rfl) T.len PySem.boot_len (pa_cons (pv 0) pa_nil)) (C8.pe_gc (by rfl) T.most) (nomark _))
        (pss_one (ps_raise (W := fun cls d _ H => E cls d H) rfl (takes_of rfl rfl rfl rfl) (R _ rfl rfl rfl rfl rfl hr _ _ _ _ (pa_cons pe_str pa_nil) (by rfl) (by rfl) (by rfl)))) pss_nil)
      (pss_one (ps_ret (pv 0))), ?_⟩
    refine q_when (b := decide ((12 : Int) < (kvs.length : Int))) (et_test (ev_op (ev_lenD (ev_var rfl) hd) ev_c rv_I0)) (fun hb H1 e1 => ?_) (fun hb H1 e1 => ?_)
    · have hz := of_decide_eq_true hb
      refine ⟨"definitions", rfl, by decide +kernel, fun d' hd' => ?_⟩
      exact q2 (by omega) d' _ (e1.trans (Ex.new hd')) (fresh_back e1 hd') upd_same
    · have hz := of_decide_eq_false hb
      exact s_ret (ev_var rfl) (fun H2 e2 => q1 (by omega) H2 (e1.trans e2))
/-- Book(..) -/
def spBkInit (K : PySem.W.Frag) (CK : Addr) : Sp := fun vs H Q _ => ∃ (a dx g : Addr) (kvs : List (Key × V)) (H0 : Hp), vs = [.ref a, .ref g] ∧ H a = some (.ins CK dx []) ∧ H0 a = none ∧ Ex H0 H ∧ ((Tup0 K g ∧ kvs = []) ∨ H0 g = some (.dK kvs)) ∧ ∀ H', Ex H0 H' → BkAt CK H' a kvs → Q .non H'
theorem scBkInit : FnScope ["self", "given"] ["self", "given"] (defScope (inClass (topS 26) 0)) := ⟨rfl, rfl, rfl, by decide +kernel, rfl, by decide +kernel, by decide +kernel⟩
theorem ok_bkinit {f : Addr} {fd : FuncData} {t0 : Addr} (F : FunD K "__init__" "Book.__init__" (defArgs (inClass (topS 26) 0)) (defBody (inClass (topS 26) 0)) (defScope (inClass (topS 26) 0)) [.ref t0] [] f fd) (T : BkT K mg CK CB) : FnOk P w K mg base CX0 1 f fd ["self", "given"] (spBkInit K CK) := by
  refine F.ok scBkInit (fun vs H Q E h => ?_) (fun cdv A outer s H vs Q E hr h => ?_)
  · obtain ⟨a, dx, g, kvs, H0, rfl, _⟩ := h
    rfl
  · obtain ⟨a, dx, g, kvs, H0, rfl, ha, hna, e0, hg, q⟩ := h
    refine ⟨_, pss_one (ps_fld (pv 0) (pe_callTy (call_dictA rfl) (by rfl) T.dict (by decide +kernel) (pa_cons (pv 1) pa_nil)) rfl), ?_⟩
    refine s_fldD (kvs := kvs) (ed_dict (ev_var rfl) (hg.imp id fun z => e0 _ _ z)) (fun H1 e1 => ev_var rfl) ha T.cl T.nB (by show 0 < 1000; decide) (fun t H1 ht e1 h1 => ?_)
    exact q _ (Ex.mut (e0.trans e1) hna) ⟨dx, t, upd_same, by rw [upd_ne ht]; exact h1⟩
theorem binds_bk {f t0 : Addr} {fd : FuncData} (F : FunD K "__init__" "Book.__init__" (defArgs (inClass (topS 26) 0)) (defBody (inClass (topS 26) 0)) (defScope (inClass (topS 26) 0)) [.ref t0] [] f fd) : Binds K fd ["self", "given"] [.ref t0] := by
  obtain ⟨ds, vd, bd⟩ := F.binds1 (ps := ["self", "given"]) 1 0 (by simp) rfl (fun T kV doc pm an cdv ct us its h1 h2 => match us, its, h1, h2 with | [_], [_], _, _ => ⟨_, rfl, rfl⟩)
  cases vd with
  | cons r rs =>
    cases rs
    cases r
    exact bd
/-- book[z] = v -/
def spBkSet (CK CB : Addr) : Sp := fun vs H Q E => ∃ (a : Addr) (z : Str) (v : V) (kvs : List (Key × V)), vs = [.ref a, .str z, v] ∧ BkAt CK H a kvs ∧ (kvs.map (·.1)).Nodup ∧ kvs.length ≤ 1000 ∧ z.length ≤ 40000 ∧
  (nameS z = true → (putK kvs (.inr z) v).length ≤ 12 → ∀ H', ExB a H H' → BkAt CK H' a (putK kvs (.inr z) v) → Q .non H') ∧ (nameS z = true → 12 < (putK kvs (.inr z) v).length → Bad CB "definitions" H E) ∧ (nameS z = false → Bad CB "name" H E)
theorem scBkSet : FnScope ["self", "at", "worth"] ["self", "at", "worth"] (defScope (inClass (topS 26) 1)) := ⟨rfl, rfl, rfl, by decide +kernel, rfl, by decide +kernel, by decide +kernel⟩
theorem ok_bkset {f : Addr} {fd : FuncData} {k : Nat} (hk : 1 ≤ k) (F : Fun K "__setitem__" "Book.__setitem__" (inClass (topS 26) 1) f fd) (T : BkT K mg CK CB) (GN : CalX P w K mg base CX0 1 "is_name" (spPred nameV)) (GM : CalX P w K mg base (L2.CX P w) k "limited" (spLim CB)) (R : RaisesX P w K mg base "BadTerm" CB "field" k) :
    FnOk P w K mg base (L2.CX P w) (k + 1) f fd ["self", "at", "worth"] (spBkSet CK CB) := by
  refine F.okX scBkSet (fun vs H Q E h => ?_) (fun cdv A outer s H vs Q E hr h => ?_)
  · obtain ⟨a, z, v, kvs, rfl, _⟩ := h
    rfl
  · obtain ⟨a, z, v, kvs, rfl, ⟨dx, d, h1, h2⟩, nd, hl, hz, q1, q2, q3⟩ := h
    refine ⟨_, pss_cons (ps_if (pt_not (pt_val (pe_cx (E := fun _ => E0) GN hr (by omega) (by rfl) at0 (pa_cons (pv 1) pa_nil))))
        (pss_one (ps_raise (W := fun cls d _ H => E cls d H) rfl (takes_of rfl rfl rfl rfl) (R _ rfl rfl rfl rfl rfl hr _ _ _ _ (pa_cons pe_str pa_nil) (by rfl) (by rfl) (by rfl)))) pss_nil)
      (pss_one (ps_fld (pv 0) (pe_cx (E := WE (fun cls d _ H => E cls d H)) GM hr (Nat.le_refl _) (by rfl) (fun σ => passAt (takes_of rfl rfl rfl rfl) σ) (pa_cons (pe_star1 (pe_fld (pv 0) rfl) (pv 1) (pv 2)) pa_nil)) rfl)), ?_⟩
    refine q_when (b := !nameS z) (et_not (et_B (ev_cx (ea_cons (ev_var rfl) ea_nil) (sp_pred (f := nameV) (v := .str z) hz)))) (fun hb H1 e1 => ?_) (fun hb H1 e1 => ?_)
    · have hn : nameS z = false := by simpa using hb
      refine ⟨"name", rfl, by decide +kernel, fun d' hd' => ?_⟩
      exact q3 hn d' _ (e1.trans (Ex.new hd')) (fresh_back e1 hd') upd_same
    · have hn : nameS z = true := by simpa using hb
      have key := ed_star1 (ta := tFld K (tVar 0) "by_name") (tk := tVar 1) (tv := tVar 2) (σ := L2.start ["self", "at", "worth"] [.ref a, .str z, v]) (H := H1) (key := .inr z) (v := v) (kvs := kvs) (ev_fld (ev_var rfl) (e1 _ _ h1) T.cl T.nB bk_lookup) (e1 _ _ h2) nd (by omega) (ev_var rfl) (ev_var rfl)
      refine s_fldCall (key H1 (Ex.refl H1) _ (fun p H2 hp e2 h2' => ?_))
      refine ⟨p, _, rfl, h2', fun hz6 H3 e3 => ?_, fun hz6 => (q2 hn hz6).ex (e1.trans e2)⟩
      have x3 := (e1.trans e2).trans e3
      refine ⟨_, rfl, a, CK, dx, _, rfl, x3 _ _ h1, T.cl, T.nB, by show 1 < 1000; decide, ?_⟩
      have hpa : p ≠ a := fun z => by
        rw [z, (e1 _ _ h1)] at hp
        cases hp
      refine q1 hn hz6 _ ((ExB.of x3).trans ExB.upd) ⟨dx, p, ?_, by rw [upd_ne hpa]; exact e3 _ _ h2'⟩
      rw [bk_put]
      exact upd_same
/-- book[z] -/
def spBkGet (CK CN : Addr) : Sp := fun vs H Q E => ∃ (a : Addr) (z : Str) (kvs : List (Key × V)), vs = [.ref a, .str z] ∧ BkAt CK H a kvs ∧ z.length ≤ 1000 ∧ (∀ v, valV kvs (.inr z) = some v → RetV v H Q) ∧ (valV kvs (.inr z) = none → BadF CN "name" z H E)
theorem scBkGet : FnScope ["self", "at"] ["self", "at"] (defScope (inClass (topS 26) 2)) := ⟨rfl, rfl, rfl, by decide +kernel, rfl, by decide +kernel, by decide +kernel⟩
theorem ok_bkget {f : Addr} {fd : FuncData} {k : Nat} (F : Fun K "__getitem__" "Book.__getitem__" (inClass (topS 26) 2) f fd) (T : BkT K mg CK CB) (R : RaisesX P w K mg base "NoName" CN "name" k) : FnOk P w K mg base (L2.CX P w) (k + 1) f fd ["self", "at"] (spBkGet CK CN) := by
  refine F.okX scBkGet (fun vs H Q E h => ?_) (fun cdv A outer s H vs Q E hr h => ?_)
  · obtain ⟨a, z, kvs, rfl, _⟩ := h
    rfl
  · obtain ⟨a, z, kvs, rfl, ⟨dx, d, h1, h2⟩, hz, q1, q2⟩ := h
    refine ⟨_, pss_cons (ps_if (pt_cmp (pc_dnotin (hu_of hr) (pv 1) (pe_fld (pv 0) rfl)))
        (pss_one (ps_raise (W := fun cls d _ H => E cls d H) rfl (takes_of rfl rfl rfl rfl) (R _ rfl rfl rfl rfl rfl hr _ _ _ _ (pa_cons (pv 1) pa_nil) (by rfl) (by rfl) (by rfl)))) pss_nil)
      (pss_one (ps_ret (pe_dget (hu_of hr) (pe_fld (pv 0) rfl) (pv 1) (fun _ _ => rfl)))), ?_⟩
    refine q_when (b := !(valV kvs (.inr z)).isSome) (et_dni (key := .inr z) (ev_var rfl) (ev_fld (ev_var rfl) h1 T.cl T.nB bk_lookup) h2) (fun hb H1 e1 => ?_) (fun hb H1 e1 => ?_)
    · have hn : valV kvs (.inr z) = none := by simpa using hb
      refine ⟨_, rfl, z, rfl, hz, fun d' hd' => ?_⟩
      exact q2 hn d' _ (e1.trans (Ex.new hd')) (fresh_back e1 hd') upd_same
    · have hs : (valV kvs (.inr z)).isSome = true := by simpa using hb
      obtain ⟨v, hv⟩ := Option.isSome_iff_exists.mp hs
      exact s_ret (v := v) (ev_dget (key := .inr z) (ev_fld (ev_var rfl) (e1 _ _ h1) T.cl T.nB bk_lookup) (ev_var rfl) (e1 _ _ h2) hv) (fun H2 e2 => q1 v hv H2 (e1.trans e2))
/-- z in book -/
def spBkIn (CK : Addr) : Sp := fun vs H Q _ => ∃ (a : Addr) (z : Str) (kvs : List (Key × V)), vs = [.ref a, .str z] ∧ BkAt CK H a kvs ∧ RetV (.bl (valV kvs (.inr z)).isSome) H Q
theorem scBkIn : FnScope ["self", "x"] ["self", "x"] (defScope (inClass (topS 26) 3)) := ⟨rfl, rfl, rfl, by decide +kernel, rfl, by decide +kernel, by decide +kernel⟩
theorem ok_bkin {f : Addr} {fd : FuncData} (F : Fun K "__contains__" "Book.__contains__" (inClass (topS 26) 3) f fd) (T : BkT K mg CK CB) : FnOk P w K mg base CX0 1 f fd ["self", "x"] (spBkIn CK) := by
  refine F.ok scBkIn (fun vs H Q E h => ?_) (fun cdv A outer s H vs Q E hr h => ?_)
  · obtain ⟨a, z, kvs, rfl, _⟩ := h
    rfl
  · obtain ⟨a, z, kvs, rfl, ⟨dx, d, h1, h2⟩, q⟩ := h
    refine ⟨_, pss_one (ps_ret (pe_cmp (pc_din (hu_of hr) (pv 1) (pe_fld (pv 0) rfl)))), ?_⟩
    exact s_ret (v := .bl (valV kvs (.inr z)).isSome) (ev_din (key := .inr z) (ev_var rfl) (ev_fld (ev_var rfl) h1 T.cl T.nB bk_lookup) h2) q
/-- len(book) -/
def spBkLen (CK : Addr) : Sp := fun vs H Q _ => ∃ (a : Addr) (kvs : List (Key × V)), vs = [.ref a] ∧ BkAt CK H a kvs ∧ RetV (.int kvs.length) H Q
theorem scBkLen : FnScope ["self"] ["self"] (defScope (inClass (topS 26) 4)) := ⟨rfl, rfl, rfl, by decide +kernel, rfl, by decide +kernel, by decide +kernel⟩
theorem ok_bklen {f : Addr} {fd : FuncData} (F : Fun K "__len__" "Book.__len__" (inClass (topS 26) 4) f fd) (T : BkT K mg CK CB) : FnOk P w K mg base CX0 1 f fd ["self"] (spBkLen CK) := by
  refine F.ok scBkLen (fun vs H Q E h => ?_) (fun cdv A outer s H vs Q E hr h => ?_)
  · obtain ⟨a, kvs, rfl, _⟩ := h
    rfl
  · obtain ⟨a, kvs, rfl, ⟨dx, d, h1, h2⟩, q⟩ := h
    refine ⟨_, pss_one (ps_ret (pe_callB call_lenD (by rfl) T.len PySem.boot_len (pa_cons (pe_fld (pv 0) rfl) pa_nil))), ?_⟩
    exact s_ret (v := .int (kvs.length : Int)) (ev_lenD (ev_fld (ev_var rfl) h1 T.cl T.nB bk_lookup) h2) q
/-- book.names() -/
def spBkNames (CK : Addr) : Sp := fun vs H Q _ => ∃ (a : Addr) (kvs : List (Key × V)) (ks : List Str), vs = [.ref a] ∧ BkAt CK H a kvs ∧ kvs.map (·.1) = ks.map Sum.inr ∧ ks.length < 64 ∧ ∀ ys : List Str, ys.Perm ks → PyProof.Rows.sortedS ys = true → RetL (ys.map V.str) H Q
theorem scBkNames : FnScope ["self"] ["self"] (defScope (inClass (topS 26) 7)) := ⟨rfl, rfl, rfl, by decide +kernel, rfl, by decide +kernel, by decide +kernel⟩
theorem ok_bknames {f : Addr} {fd : FuncData} (F : Fun K "names" "Book.names" (inClass (topS 26) 7) f fd) (T : BkT K mg CK CB) : FnOk P w K mg base CX0 1 f fd ["self"] (spBkNames CK) := by
  refine F.ok scBkNames (fun vs H Q E h => ?_) (fun cdv A outer s H vs Q E hr h => ?_)
  · obtain ⟨a, kvs, ks, rfl, _⟩ := h
    rfl
  · obtain ⟨a, kvs, ks, rfl, ⟨dx, d, h1, h2⟩, hks, h64, q⟩ := h
    refine ⟨_, pss_one (ps_ret (pe_callB (call_sortedD rfl) (by rfl) T.sorted (by decide +kernel) (pa_cons (pe_fld (pv 0) rfl) pa_nil))), ?_⟩
    refine ev_fld (ev_var rfl) h1 T.cl T.nB bk_lookup H (Ex.refl H) _ fun H1 e1 => ?_
    exact ⟨d, kvs, ks, rfl, .inl (e1 _ _ h2), hks, h64, fun ys p hp hs hn => q ys hp hs p _ (fresh_back e1 hn) (e1.trans (Ex.new hn)) upd_same⟩
/-- Definition(..), of what is allowed -/
def spDfInit (CD : Addr) : Sp := fun vs H Q _ => ∃ (a dx l b : Addr) (ns : List Str) (H0 : Hp), vs = [.ref a, .ref l, .ref b] ∧ H a = some (.ins CD dx []) ∧ H0 a = none ∧ Ex H0 H ∧ NmsAt H0 l ns ∧ ns.length ≤ 4 ∧ namesS ns = true ∧ (∀ z ∈ ns, z.length ≤ 40000) ∧ ∀ H', Ex H0 H' → DfAt CD H' a ns b → Q .non H'
theorem scDfInit : FnScope ["self", "params", "body"] ["self", "params", "body"] (defScope (inClass (topS 25) 0)) := ⟨rfl, rfl, rfl, by decide +kernel, rfl, by decide +kernel, by decide +kernel⟩
theorem ok_dfinit {f : Addr} {fd : FuncData} (F : Fun K "__init__" "Definition.__init__" (inClass (topS 25) 0) f fd) (T : DfT K mg CD) (GA : CalX P w K mg base CX0 2 "are_names" spNames) : FnOk P w K mg base CX0 3 f fd ["self", "params", "body"] (spDfInit CD) := by
  refine F.ok scDfInit (fun vs H Q E h => ?_) (fun cdv A outer s H vs Q E hr h => ?_)
  · obtain ⟨a, dx, l, b, ns, H0, rfl, _⟩ := h
    rfl
  · obtain ⟨a, dx, l, b, ns, H0, rfl, ha, hna, e0, hl, h4, hn, hz, q⟩ := h
    refine ⟨_, pss_cons (ps_if (PW.pt (pw_or (pt_cmpR op_gt (pe_callB call_len_seq (by rfl) T.len PySem.boot_len (pa_cons (pv 1) pa_nil)) (C8.pe_gc (by rfl) T.most) (nomark _)) (pw_or1 (pt_not (pt_val (pe_cx (E := fun _ => E0) GA hr (by decide) (by rfl) at0 (pa_cons (pv 1) pa_nil))))))) pss_never pss_nil)
      (pss_cons (ps_fld (pv 0) (pe_callTy call_tuple_of (by rfl) T.tuple (by decide +kernel) (pa_cons (pv 1) pa_nil)) rfl)
      (pss_one (ps_fld (pv 0) (pv 2) rfl))), ?_⟩
    have hl0 := hl.ex e0
    have lenE : Ev (tCB (fun xs H Q => ∃ p ys, xs = [V.ref p] ∧ (SqL K H p ys ∨ SqT K H p ys) ∧ Q (.int ys.length) H) (tCons (tVar 1) tNil)) [some (.ref a), some (.ref l), some (.ref b)] H (.int (ns.length : Int)) := fun H1 e1 Q' q' =>
      ⟨_, rfl, l, _, rfl, (hl0.ex e1).sq, by rw [List.length_map]; exact q' H1 (Ex.refl H1)⟩
    refine q_when (b := false) (et_is (et_or (a := false) (b := false) (et_is (et_test (ev_op lenE ev_c rv_I0)) (decide_eq_false (by omega))) (fun _ => et_is (et_not (et_B (ev_cx (z := .bl (namesS ns)) (ea_cons (ev_var rfl) ea_nil) (fun H1 e1 Q' q' E' => ⟨l, ns, rfl, hl0.ex e1, by omega, hz, q'⟩)))) (by rw [hn]; rfl))) rfl) (fun z => nomatch z) (fun _ H1 e1 => ?_)
    have sqa : SqA K H1 l (ns.map V.str) := (hl0.ex e1).elim (fun z => .inl (sq_of z)) .inr
    refine s_fldQ (D := { nx := sFld K (tVar 0) (tVar 2) "body" { nx := fun _ H' => Q .non H', rt := Q }, rt := Q }) (xs := ns.map V.str) (eq_tup (ev_var rfl) sqa) (fun H2 e2 => ev_var rfl) (e1 _ _ ha) T.cl T.nP (by show 0 < 1000; decide) (fun t H2 ht e2 h2 => ?_)
    refine ⟨_, rfl, _, rfl, a, CD, dx, _, rfl, upd_same, T.cl, T.nB, by show 1 < 1000; decide, ?_⟩
    have x2 : Ex H0 (upd H2 a (.ins CD dx (putF "params" (.ref t) []))) := Ex.mut ((e0.trans e1).trans e2) hna
    refine q _ (Ex.mut x2 hna) ⟨dx, t, ?_, by rw [upd_ne ht, upd_ne ht]; exact h2⟩
    rw [upd_same]
    have : putF ("body" : Str) (V.ref b) (putF "params" (.ref t) []) = [(("params" : Str), V.ref t), (("body" : Str), .ref b)] := by
      show (if ("params" : Str) = "body" then _ else (("params" : Str), V.ref t) :: putF ("body" : Str) (V.ref b) []) = _
      rw [if_neg (by decide +kernel)]
      rfl
    rw [this]
end
end Fs

set_option Elab.async false
set_option linter.all false
set_option maxRecDepth 100000
set_option maxHeartbeats 2000000
/-! Lists of things that stand in the heap; what a list's change leaves. -/
namespace FsK
open PySem PySem.Spec PyProof.Rows L2 Evl FsE FsC FsR Fs
/-- a list may change: what stands in objects and tuples stays -/
structure ExN (H H' : Hp) : Prop where
  ins : ∀ a C dx fs, H a = some (.ins C dx fs) → H' a = some (.ins C dx fs)
  tup : ∀ a xs, H a = some (.tup xs) → H' a = some (.tup xs)
theorem ExN.upd {H : Hp} {l : Addr} {xs ys : List V} (h : H l = some (.lst xs)) : ExN H (upd H l (.lst ys)) := ⟨fun a C dx fs ha => by
    rw [upd_ne (fun z => by rw [z, h] at ha; cases ha)]
    exact ha, fun a xs ha => by
    rw [upd_ne (fun z => by rw [z, h] at ha; cases ha)]
    exact ha⟩
theorem ExN.of {H H' : Hp} (e : Ex H H') : ExN H H' := ⟨fun _ _ _ _ h => e _ _ h, fun _ _ h => e _ _ h⟩
theorem ExN.trans {H H1 H2 : Hp} (e : ExN H H1) (e' : ExN H1 H2) : ExN H H2 := ⟨fun a C dx fs h => e'.ins _ _ _ _ (e.ins _ _ _ _ h), fun a xs h => e'.tup _ _ (e.tup _ _ h)⟩
mutual
theorem PrAt.keep {C : Addr} {H H' : Hp} (e : ExN H H') : ∀ {p : Pr} {a : Addr}, PrAt C H a p → PrAt C H' a p
  | .choice os, a, h => by
    unfold PrAt at h ⊢
    obtain ⟨t, ps, ⟨dx, h1⟩, h2, h3⟩ := h
    exact ⟨t, ps, ⟨dx, e.ins _ _ _ _ h1⟩, e.tup _ _ h2, OfsAt.keep e h3⟩
  | .new n k r, a, h => by
    unfold PrAt at h ⊢
    obtain ⟨t, b, ⟨dx, h1⟩, h2, h3⟩ := h
    exact ⟨t, b, ⟨dx, e.ins _ _ _ _ h1⟩, e.tup _ _ h2, PrAt.keep e h3⟩
  | .cond l r y n, a, h => by
    unfold PrAt at h ⊢
    obtain ⟨t, b, c, ⟨dx, h1⟩, h2, h3, h4⟩ := h
    exact ⟨t, b, c, ⟨dx, e.ins _ _ _ _ h1⟩, e.tup _ _ h2, PrAt.keep e h3, PrAt.keep e h4⟩
  | .call n ops, a, h => by
    unfold PrAt at h ⊢
    obtain ⟨t, u, ⟨dx, h1⟩, h2, h3⟩ := h
    exact ⟨t, u, ⟨dx, e.ins _ _ _ _ h1⟩, e.tup _ _ h2, e.tup _ _ h3⟩
theorem OfsAt.keep {C : Addr} {H H' : Hp} (e : ExN H H') : ∀ {os : Ofs} {ps : List V}, OfsAt C H ps os → OfsAt C H' ps os
  | .nil, ps, h => by
    unfold OfsAt at h ⊢
    exact h
  | .cons c s m op ns r os, ps, h => by
    unfold OfsAt at h ⊢
    obtain ⟨o, u, b, qs, h1, h2, h3, h4, h5⟩ := h
    exact ⟨o, u, b, qs, h1, e.tup _ _ h2, e.tup _ _ h3, PrAt.keep e h4, OfsAt.keep e h5⟩
end
/-- item by item -/
def LsA {α : Type} (R : Hp → V → α → Prop) (H : Hp) : List V → List α → Prop
  | [], [] => True
  | v :: vs, x :: xs => R H v x ∧ LsA R H vs xs
  | _, _ => False
section
variable {α : Type} {R : Hp → V → α → Prop} {H H' : Hp}
theorem LsA.imp (e : ∀ v x, R H v x → R H' v x) : ∀ {vs : List V} {xs : List α}, LsA R H vs xs → LsA R H' vs xs
  | [], [], _ => True.intro
  | _ :: _, _ :: _, h => ⟨e _ _ h.1, LsA.imp e h.2⟩
  | [], _ :: _, h => h.elim
  | _ :: _, [], h => h.elim
theorem LsA.append : ∀ {vs ws : List V} {xs ys : List α}, LsA R H vs xs → LsA R H ws ys → LsA R H (vs ++ ws) (xs ++ ys)
  | [], _, [], _, _, g => g
  | _ :: _, _, _ :: _, _, h, g => ⟨h.1, LsA.append h.2 g⟩
  | [], _, _ :: _, _, h, _ => h.elim
  | _ :: _, _, [], _, h, _ => h.elim
theorem LsA.snoc {v : V} {x : α} {vs : List V} {xs : List α} (h : LsA R H vs xs) (hv : R H v x) : LsA R H (vs ++ [v]) (xs ++ [x]) := h.append ⟨hv, True.intro⟩
theorem LsA.length : ∀ {vs : List V} {xs : List α}, LsA R H vs xs → vs.length = xs.length
  | [], [], _ => rfl
  | _ :: _, _ :: _, h => congrArg (· + 1) (LsA.length h.2)
  | [], _ :: _, h => h.elim
  | _ :: _, [], h => h.elim
theorem LsA.get : ∀ {vs : List V} {xs : List α} {i : Nat} {v : V}, LsA R H vs xs → vs[i]? = some v → ∃ x, xs[i]? = some x ∧ R H v x
  | _ :: _, x :: _, 0, v, h, e => ⟨x, rfl, by cases e; exact h.1⟩
  | _ :: _, _ :: _, i + 1, v, h, e => LsA.get (i := i) h.2 e
  | [], _, _, _, _, e => by simp at e
  | _ :: _, [], _, _, h, _ => h.elim
theorem LsA.at_ {vs : List V} {xs : List α} {i : Nat} (h : LsA R H vs xs) (hi : i < vs.length) : ∃ v x, vs[i]? = some v ∧ xs[i]? = some x ∧ R H v x := by
  obtain ⟨x, h1, h2⟩ := LsA.get h (List.getElem?_eq_getElem hi)
  exact ⟨_, x, List.getElem?_eq_getElem hi, h1, h2⟩
end
/-- it evaluates to something with this word -/
def EvS (te : TE) (σ : L2.St) (H : Hp) (Pv : V → Hp → Prop) : Prop := ∀ H1, Ex H H1 → ∀ Q : VK, (∀ v H2, Ex H1 H2 → Pv v H2 → Q v H2) → te σ H1 Q
section
variable {σ : L2.St} {H : Hp} {te ta : TE} {Pv : V → Hp → Prop} {K : PySem.W.Frag} {D : Ends} {tz : TS}
theorem s_appS {l : Addr} {xs : List V} (hl : H l = some (.lst xs)) (ha : Ev ta σ H (.ref l)) (h : EvS te σ H Pv) (hz : xs.length < 100000) (k : ∀ v H1, Ex H H1 → Pv v H1 → D.nx σ (upd H1 l (.lst (xs ++ [v])))) :
    tDrop (tBM K "list" rAppend ta (tCons te tNil)) D σ H := ha H (Ex.refl H) _ fun H1 e1 =>
  ⟨Or.inl ⟨rfl, xs, sq_of (e1 l _ hl)⟩, h H1 e1 _ fun v H2 e2 hv => ⟨l, xs, v, rfl, rfl, e2 l _ (e1 l _ hl), sz_lt hz, k v H2 (e1.trans e2) hv⟩⟩
theorem q_asgS {i : Nat} (h : EvS te σ H Pv) (k : ∀ v H1, Ex H H1 → Pv v H1 → tz D (σ.set i (some v)) H1) : tSeq (tAsg te (gName i)) tz D σ H := h H (Ex.refl H) _ fun v H1 e1 hv => k v H1 e1 hv
theorem s_retS (h : EvS te σ H Pv) (k : ∀ v H1, Ex H H1 → Pv v H1 → D.rt v H1) : tRet te D σ H := h H (Ex.refl H) _ fun v H1 e1 hv => k v H1 e1 hv
/-- a slice of a new list -/
theorem el_slN {tl th : TO} {xs : List V} {lo hi : Option Int} (h : EvL te σ H xs) (h1 : EvO tl σ H lo) (h2 : EvO th σ H hi) : EvL (tSl (rSlL K) te tl th) σ H (cutV xs lo hi) := fun H1 e Q q =>
  h H1 e _ fun a H2 ha e2 h2' => h1 H2 (e.trans e2) _ fun H3 e3 => h2 H3 ((e.trans e2).trans e3) _ fun H4 e4 =>
    ⟨a, xs, rfl, sq_of ((e3.trans e4) _ _ h2'), fun p hp => q p _ (fresh_back ((e2.trans e3).trans e4) hp) (((e2.trans e3).trans e4).trans (Ex.new hp)) upd_same⟩
end
end FsK

set_option Elab.async false
set_option linter.all false
set_option maxRecDepth 100000
set_option maxHeartbeats 8000000
/-! programs: names and calls checked -/
namespace Fs
open PySem L2 Evl FsE FsC FsR FsA FsD FsU FsK
/-- a fault that is found in a process -/
inductive Flt where
  | name (z : Str)
  | count (z : Str)
def FltE (CN CW : Addr) (H : Hp) (E : XK) : Flt → Prop
  | .name z => BadF CN "name" z H E
  | .count z => BadF CW "name" z H E
theorem FltE.ex {CN CW : Addr} {H H' : Hp} {E : XK} (e : Ex H H') : ∀ {f : Flt}, FltE CN CW H E f → FltE CN CW H' E f
  | .name _, h => BadF.ex e h
  | .count _, h => BadF.ex e h
def FOut (CN CW : Addr) (o : Option Flt) (H : Hp) (Q : VK) (E : XK) : Prop := (o = none → RetV .non H Q) ∧ ∀ f, o = some f → FltE CN CW H E f
theorem FOut.ex {CN CW : Addr} {o : Option Flt} {H H' : Hp} {Q : VK} {E : XK} (e : Ex H H') (h : FOut CN CW o H Q E) : FOut CN CW o H' Q E := ⟨fun z H2 e2 => h.1 z H2 (e.trans e2), fun f z => (h.2 f z).ex e⟩
/-- definitions: names, parameters, bodies -/
abbrev Ds := List (Str × List Str × Pr)
/-- the first name among the operands that is not bound -/
def unb (bs : List Str) : List Opd → Option Str
  | [] => none
  | .int _ :: os => unb bs os
  | .nm z :: os => if z ∈ bs then unb bs os else some z
theorem unb_app {bs : List Str} : ∀ {xs ys : List Opd}, unb bs (xs ++ ys) = match unb bs xs with | some z => some z | none => unb bs ys
  | [], _ => rfl
  | .int _ :: xs, ys => by
    show unb bs (xs ++ ys) = _
    rw [unb_app]
    rfl
  | .nm z :: xs, ys => by
    show (if z ∈ bs then unb bs (xs ++ ys) else some z) = match (if z ∈ bs then unb bs xs else some z) with | some z => some z | none => unb bs ys
    by_cases h : z ∈ bs
    · rw [if_pos h, if_pos h, unb_app]
    · rw [if_neg h, if_neg h]
def lkD (ds : Ds) (z : Str) : Option (List Str × Pr) := ds.lookup z
def fCall (ds : Ds) (bs : List Str) (z : Str) (ops : List Opd) : Option Flt :=
  match lkD ds z with
  | none => some (.name z)
  | some d => if ops.length = d.1.length then (unb bs ops).map .name else some (.count z)
def orF : Option Flt → Option Flt → Option Flt
  | some f, _ => some f
  | none, o => o
mutual
def fPr (ds : Ds) : List Str → Pr → Option Flt
  | bs, .choice os => fOfs ds bs os
  | bs, .new n _ r => fPr ds (bs ++ [n]) r
  | bs, .cond l r y n => orF ((unb bs [l, r]).map .name) (orF (fPr ds bs y) (fPr ds bs n))
  | bs, .call z ops => fCall ds bs z ops
def fOfs (ds : Ds) : List Str → Ofs → Option Flt
  | _, .nil => none
  | bs, .cons c _ _ op ns r os => orF ((unb bs [.nm c, op]).map .name) (orF (fPr ds (bs ++ ns) r) (fOfs ds bs os))
end
/-! short names -/
def Opd.sh : Opd → Prop
  | .int _ => True
  | .nm z => z.length ≤ 1000
mutual
def Pr.sh : Pr → Prop
  | .choice os => os.sh
  | .new n _ r => n.length ≤ 1000 ∧ r.sh
  | .cond l r y n => l.sh ∧ r.sh ∧ y.sh ∧ n.sh
  | .call z ops => z.length ≤ 1000 ∧ ops.length ≤ 100 ∧ ∀ o ∈ ops, o.sh
def Ofs.sh : Ofs → Prop
  | .nil => True
  | .cons c _ _ op ns r os => c.length ≤ 1000 ∧ op.sh ∧ ns.length ≤ 100 ∧ r.sh ∧ os.sh
end
/-- a table of definitions -/
def DvAt (CD C : Addr) (H : Hp) (v : V) (d : Str × List Str × Pr) : Prop := ∃ a b, v = .ref a ∧ DfAt CD H a d.2.1 b ∧ PrAt C H b d.2.2
theorem DvAt.ex {CD C : Addr} {H H' : Hp} (e : Ex H H') {v : V} {d : Str × List Str × Pr} (h : DvAt CD C H v d) : DvAt CD C H' v d := by
  obtain ⟨a, b, h1, h2, h3⟩ := h
  exact ⟨a, b, h1, h2.ex e, h3.ex e⟩
structure TbP (CD C : Addr) (H : Hp) (kvs : List (Key × V)) (ds : Ds) : Prop where
  keys : kvs.map (·.1) = ds.map (fun d => Sum.inr d.1)
  vals : LsA (DvAt CD C) H (kvs.map (·.2)) ds
  nd : (ds.map (·.1)).Nodup
  sm : ∀ d ∈ ds, d.1.length ≤ 1000 ∧ d.2.1.length ≤ 100 ∧ d.2.2.depth ≤ 20 ∧ d.2.2.sh
  len : ds.length ≤ 12
  sz : ∀ d ∈ ds, d.2.2.size ≤ 400
theorem TbP.ex {CD C : Addr} {H H' : Hp} {kvs : List (Key × V)} {ds : Ds} (e : Ex H H') (h : TbP CD C H kvs ds) : TbP CD C H' kvs ds := ⟨h.keys, h.vals.imp fun _ _ z => z.ex e, h.nd, h.sm, h.len, h.sz⟩
theorem tbp_get {CD C : Addr} {H : Hp} {z : Str} : ∀ {kvs : List (Key × V)} {ds : Ds}, kvs.map (·.1) = ds.map (fun d => Sum.inr d.1) → LsA (DvAt CD C) H (kvs.map (·.2)) ds → (∀ d, lkD ds z = some d → ∃ a b, valV kvs (.inr z) = some (.ref a) ∧ DfAt CD H a d.1 b ∧ PrAt C H b d.2) ∧ (lkD ds z = none → valV kvs (.inr z) = none)
  | [], [], _, _ => ⟨(fun d h => nomatch h), fun _ => rfl⟩
  | [], _ :: _, e, _ => by simp at e
  | _ :: _, [], e, _ => by simp at e
  | p :: kvs, d :: ds, e, h => by
    injection e with e1 e2
    have e1 : p.1 = Sum.inr d.1 := e1
    obtain ⟨h1, h2⟩ := h
    have ih := tbp_get (z := z) e2 h2
    unfold lkD
    rw [List.lookup_cons]
    by_cases hz : z = d.1
    · rw [show (z == d.1) = true from beq_iff_eq.mpr hz]
      refine ⟨fun d' hd' => ?_, fun hd' => nomatch hd'⟩
      obtain ⟨a, b, x1, x2, x3⟩ := h1
      cases hd'
      refine ⟨a, b, ?_, x2, x3⟩
      rw [valV_pos (by rw [e1, hz])]
      exact congrArg some x1
    · rw [show (z == d.1) = false from beq_eq_false_iff_ne.mpr hz]
      have hne : p.1 ≠ Sum.inr z := fun y => hz (by
        rw [e1] at y
        exact (Sum.inr.inj y).symm)
      rw [valV_neg hne]
      exact ih
theorem TbP.has {CD C : Addr} {H : Hp} {kvs : List (Key × V)} {ds : Ds} {z : Str} (h : TbP CD C H kvs ds) : (valV kvs (.inr z)).isSome = (lkD ds z).isSome := by
  have g := tbp_get (z := z) h.keys h.vals
  cases q : lkD ds z with
  | none =>
    rw [g.2 q]
    rfl
  | some d =>
    obtain ⟨a, b, x, _⟩ := g.1 d q
    rw [x]
    rfl
theorem lkD_mem {z : Str} {d : List Str × Pr} : ∀ {ds : Ds}, lkD ds z = some d → (z, d) ∈ ds
  | [], h => nomatch h
  | x :: ds, h => by
    unfold lkD at h
    rw [List.lookup_cons] at h
    by_cases hz : z = x.1
    · rw [show (z == x.1) = true from beq_iff_eq.mpr hz] at h
      cases h
      rw [hz]
      exact List.mem_cons_self ..
    · rw [show (z == x.1) = false from beq_eq_false_iff_ne.mpr hz] at h
      exact List.mem_cons_of_mem _ (lkD_mem h)
section
variable {σ : L2.St} {H : Hp} {te ta tb : TE} {K : PySem.W.Frag}
theorem inV_zs {z : Str} : ∀ {ns : List Str}, inV (.str z) (ns.map V.str) = decide (z ∈ ns)
  | [] => rfl
  | n :: ns => by
    have ih := @inV_zs z ns
    unfold inV at ih ⊢
    rw [List.map_cons, List.any_cons, ih]
    have e : eqV (.str n) (.str z) = decide (z = n) := by
      show (n == z) = decide (z = n)
      rw [Bool.eq_iff_iff, beq_iff_eq, decide_eq_true_eq]
      exact eq_comm
    rw [e, ← Bool.decide_or]
    exact decide_eq_decide.mpr (by rw [List.mem_cons])
theorem flat_zs : ∀ {ns : List Str}, (ns.map V.str).all flatV = true
  | [] => rfl
  | n :: ns => by
    rw [List.map_cons, List.all_cons, flat_zs]
    rfl
end
def OpLT (H : Hp) (u : Addr) (ops : List Opd) : Prop := H u = some (.lst (ops.map Opd.v)) ∨ H u = some (.tup (ops.map Opd.v))
theorem OpLT.ex {H H' : Hp} (e : Ex H H') {u : Addr} {ops : List Opd} (h : OpLT H u ops) : OpLT H' u ops := h.imp (e _ _) (e _ _)
def Opd.isS : Opd → Bool
  | .int _ => false
  | .nm _ => true
section
variable {P : Program} {w : World} {K : PySem.W.Frag} {mg : Str → Option Value} {base : Heap} {C CB CK CN CD CW : Addr}
theorem s_forTn {σ : L2.St} {H : Hp} {D : Ends} {tu : TS} {a : Addr} {xs : List V} {tl : TE} {j : Nat} (h : Ev tl σ H (.ref a)) (hx : SqT K H a xs) (Pv : Nat → L2.St → Hp → Prop) (h0 : ∀ H1, Ex H H1 → Pv 0 σ H1) (hl : ∀ i σ' H', i ≤ xs.length → Pv i σ' H' → SqT K H' a xs)
    (hs : ∀ i x σ' H', xs[i]? = some x → Pv i σ' H' → tu { D with nx := Pv (i + 1), ct := Pv (i + 1), bk := D.nx } (σ'.set j (some x)) H') (hd : ∀ σ' H', Pv xs.length σ' H' → D.nx σ' H') : tFor (iTup K tl) (gName j) tu D σ H :=
  s_forT h hx Pv h0 hl hs hd
/-- check_operands -/
def spOps (CN CW : Addr) : Sp := fun vs H Q E => ∃ (u l : Addr) (ops : List Opd) (bs : List Str), vs = [.ref u, .ref l] ∧ OpLT H u ops ∧ H l = some (.lst (bs.map V.str)) ∧ (∀ o ∈ ops, o.sh) ∧ FOut CN CW ((unb bs ops).map Flt.name) H Q E
abbrev nsOps : List Str := ["operands", "bound", "operand"]
theorem scOps : FnScope nsOps ["operands", "bound"] (defScope (topS 52)) := ⟨rfl, rfl, rfl, by decide +kernel, rfl, by decide +kernel, by decide +kernel⟩
abbrev tIsS (K : PySem.W.Frag) : TT := tAnd (tB (tCB (rIsi K) (tCons (tVar 2) (tCons (tC (.ty "str")) tNil)))) (tTest (tOp (rIn K true) (tVar 2) (tVar 1)))
theorem et_isS {σ : L2.St} {H : Hp} {l : Addr} {bs : List Str} {o : Opd} (s1 : σ[1]? = some (some (.ref l))) (s2 : σ[2]? = some (some o.v)) (hl : H l = some (.lst (bs.map V.str))) : EvT (tIsS K) σ H (unb bs [o]).isSome := by
  cases o with
  | int i => exact et_is (et_and (a := false) (b := false) (et_B (ev_cb (ea_cons (ev_var s2) (ea_cons ev_c ea_nil)) (rc_isInt (b := false) (by decide +kernel)))) (fun q => nomatch q)) rfl
  | nm z =>
    refine et_is (et_and (a := true) (b := !decide (z ∈ bs)) (et_B (ev_cb (ea_cons (ev_var s2) (ea_cons ev_c ea_nil)) (rc_isStr (b := true) (by decide +kernel)))) (fun _ => et_is (et_test (ev_op (ev_var s2) (ev_var s1) (rv_niL (sq_of hl) rfl flat_zs))) (by rw [show (Opd.nm z).v = V.str z from rfl, inV_zs]))) ?_
    show (true && !decide (z ∈ bs)) = (if z ∈ bs then unb bs [] else some z).isSome
    by_cases h : z ∈ bs
    · rw [if_pos h, decide_eq_true h]
      rfl
    · rw [if_neg h, decide_eq_false h]
      rfl
theorem ok_ops {f : Addr} {fd : FuncData} {k : Nat} (F : Fun K "check_operands" "check_operands" (topS 52) f fd) (B : BasT K mg) (R : RaisesX P w K mg base "NoName" CN "name" k) : FnOk P w K mg base (L2.CX P w) (k + 1) f fd ["operands", "bound"] (spOps CN CW) := by
  refine F.okX scOps (fun vs H Q E h => ?_) (fun cdv A outer s H vs Q E hr h => ?_)
  · obtain ⟨u, l, ops, bs, rfl, _⟩ := h
    rfl
  · obtain ⟨u, l, ops, bs, rfl, hu, hl, hsh, q1, q2⟩ := h
    have turn : ∀ (i : Nat) (o : Opd) (H' : Hp) (D : Ends) (t : TS), ops[i]? = some o → Ex H H' → unb bs (ops.take i) = none → (∀ z, unb bs ops = some z → ∀ H1, Ex H H1 → t { D with nx := D.nx } [some (.ref u), some (.ref l), some (.nm z : Opd).v] H1) → (unb bs (ops.take (i + 1)) = none → ∀ H1, Ex H H1 → D.nx [some (.ref u), some (.ref l), some o.v] H1) →
        tIfS (tIsS K) t tNext D [some (.ref u), some (.ref l), some o.v] H' := fun i o H' D t ho e h0 k1 k2 => by
      have ha : unb bs (ops.take (i + 1)) = unb bs [o] := by
        rw [List.take_add_one, ho, unb_app, h0]
        rfl
      refine s_when (et_isS (K := K) rfl rfl (e _ _ hl)) (fun hb H1 e1 => ?_) (fun hb H1 e1 => k2 ?_ H1 (e.trans e1))
      · obtain ⟨z, hz⟩ := Option.isSome_iff_exists.mp hb
        have eo : o = .nm z := by
          cases o with
          | int i => cases hz
          | nm y =>
            have hz' : (if y ∈ bs then none else some y) = some z := hz
            by_cases h : y ∈ bs
            · rw [if_pos h] at hz'
              cases hz'
            · rw [if_neg h] at hz'
              cases hz'
              rfl
        have all : unb bs ops = some z := by
          rw [← List.take_append_drop (i + 1) ops, unb_app, ha, hz]
        subst eo
        exact k1 z all H1 (e.trans e1)
      · rw [ha]
        cases q : unb bs [o] with
        | none => rfl
        | some y =>
          rw [q] at hb
          cases hb
    have fin : unb bs ops = none → RetV .non H Q := fun z => q1 (by rw [z]; rfl)
    have rai : ∀ z, unb bs ops = some z → BadF CN "name" z H E ∧ z.length ≤ 1000 := fun z hz => ⟨q2 (.name z) (by rw [hz]; rfl), by
      have hm : Opd.nm z ∈ ops := by
        clear q1 q2 turn fin hu hsh
        induction ops with
        | nil => cases hz
        | cons o os ih =>
          cases o with
          | int i => exact List.mem_cons_of_mem _ (ih hz)
          | nm y =>
            have hz' : (if y ∈ bs then unb bs os else some y) = some z := hz
            by_cases h : y ∈ bs
            · rw [if_pos h] at hz'
              exact List.mem_cons_of_mem _ (ih hz')
            · rw [if_neg h] at hz'
              cases hz'
              exact List.mem_cons_self ..
      exact hsh _ hm⟩
    have getO : ∀ (i : Nat) (x : V), (ops.map Opd.v)[i]? = some x → ∃ o, ops[i]? = some o ∧ x = o.v := fun i x hx => by
      rw [List.getElem?_map] at hx
      cases ho : ops[i]? with
      | none =>
        rw [ho] at hx
        cases hx
      | some o =>
        rw [ho] at hx
        cases hx
        exact ⟨o, rfl, rfl⟩
    rcases hu with hu | hu
    · refine ⟨_, pss_one (ps_for (passes_of rfl) rfl (pi_list (pv 0)) (pg_name (i := 2) scOps.nd rfl (Or.inl rfl)) (pss_one (ps_if (PW.pt (pw_and (pt_val (pe_callB (id := "isinstance") (r := rIsi K) call_isi (by rfl) B.isinst (by decide +kernel) (pa_cons (pv 2) (pa_cons (pe_bltn (v := .ty "str") (by rfl) B.str (by decide +kernel) rfl) pa_nil)))) (pw_and1 (pt_cmpR op_notIn_seq (pv 2) (pv 1) (by rfl)))))
          (pss_one (ps_raise (W := fun cls d _ H => E cls d H) rfl (takes_of rfl rfl rfl rfl) (R _ rfl rfl rfl rfl rfl hr _ _ _ _ (pa_cons (pv 2) pa_nil) (by rfl) (by rfl) (by rfl)))) pss_nil))), ?_⟩
      refine s_forLn (K := K) (xs := ops.map Opd.v) (ev_var rfl) (sq_of hu) (fun i σ' H' => ∃ v2 : Option V, σ' = [some (.ref u), some (.ref l), v2] ∧ Ex H H' ∧ unb bs (ops.take i) = none) (fun H1 e1 => ⟨_, rfl, e1, rfl⟩) (fun i σ' H' _ ⟨_, _, e, _⟩ => sq_of (e _ _ hu)) (fun i x σ' H' hx ⟨v2, hσ, e, h0⟩ => ?_) (fun σ' H' ⟨v2, hσ, e, h0⟩ => ?_)
      · subst hσ
        obtain ⟨o, ho, rfl⟩ := getO i x hx
        refine turn i o H' _ _ ho e h0 (fun z hz H1 e1 => ?_) (fun hn H1 e1 => ⟨_, rfl, e1, hn⟩)
        obtain ⟨b1, b2⟩ := rai z hz
        exact ⟨_, rfl, z, rfl, b2, fun d' hd' => b1 d' _ (e1.trans (Ex.new hd')) (fresh_back e1 hd') upd_same⟩
      · subst hσ
        rw [List.length_map, List.take_length] at h0
        exact fin h0 H' e
    · refine ⟨_, pss_one (ps_for (passes_of rfl) rfl (pi_tup (pv 0)) (pg_name (i := 2) scOps.nd rfl (Or.inl rfl)) (pss_one (ps_if (PW.pt (pw_and (pt_val (pe_callB (id := "isinstance") (r := rIsi K) call_isi (by rfl) B.isinst (by decide +kernel) (pa_cons (pv 2) (pa_cons (pe_bltn (v := .ty "str") (by rfl) B.str (by decide +kernel) rfl) pa_nil)))) (pw_and1 (pt_cmpR op_notIn_seq (pv 2) (pv 1) (by rfl)))))
          (pss_one (ps_raise (W := fun cls d _ H => E cls d H) rfl (takes_of rfl rfl rfl rfl) (R _ rfl rfl rfl rfl rfl hr _ _ _ _ (pa_cons (pv 2) pa_nil) (by rfl) (by rfl) (by rfl)))) pss_nil))), ?_⟩
      refine s_forTn (K := K) (xs := ops.map Opd.v) (ev_var rfl) (st_of hu) (fun i σ' H' => ∃ v2 : Option V, σ' = [some (.ref u), some (.ref l), v2] ∧ Ex H H' ∧ unb bs (ops.take i) = none) (fun H1 e1 => ⟨_, rfl, e1, rfl⟩) (fun i σ' H' _ ⟨_, _, e, _⟩ => st_of (e _ _ hu)) (fun i x σ' H' hx ⟨v2, hσ, e, h0⟩ => ?_) (fun σ' H' ⟨v2, hσ, e, h0⟩ => ?_)
      · subst hσ
        obtain ⟨o, ho, rfl⟩ := getO i x hx
        refine turn i o H' _ _ ho e h0 (fun z hz H1 e1 => ?_) (fun hn H1 e1 => ⟨_, rfl, e1, hn⟩)
        obtain ⟨b1, b2⟩ := rai z hz
        exact ⟨_, rfl, z, rfl, b2, fun d' hd' => b1 d' _ (e1.trans (Ex.new hd')) (fresh_back e1 hd') upd_same⟩
      · subst hσ
        rw [List.length_map, List.take_length] at h0
        exact fin h0 H' e
end
end Fs

set_option Elab.async false
set_option linter.all false
set_option maxRecDepth 100000
set_option maxHeartbeats 8000000
/-! programs: a call checked, a process checked -/
namespace Fs
open PySem L2 Evl FsE FsC FsR FsA FsD FsU FsK StX
def BkP (CK CD C : Addr) (H : Hp) (b : Addr) (ds : Ds) : Prop := ∃ kvs, BkAt CK H b kvs ∧ TbP CD C H kvs ds
theorem BkP.ex {CK CD C : Addr} {H H' : Hp} {b : Addr} {ds : Ds} (e : Ex H H') (h : BkP CK CD C H b ds) : BkP CK CD C H' b ds := by
  obtain ⟨kvs, h1, h2⟩ := h
  exact ⟨kvs, h1.ex e, h2.ex e⟩
section
variable {σ : L2.St} {H : Hp} {te ta tb tl : TE} {tz : TS} {D : Ends} {K : PySem.W.Frag} {CK CD C CN b a : Addr} {ds : Ds} {z : Str} {sp : Sp} {F : L2.St → XK} {x y : V} {xs ys : List V} {i j k : Nat}
theorem rv_inBkP {neg : Bool} {E : XK} (h : BkP CK CD C H b ds) : RV (rInO CK (spBkIn CK) E neg) (.str z) (.ref b) H (.bl (if neg then !(lkD ds z).isSome else (lkD ds z).isSome)) := fun H1 e Q q => by
  obtain ⟨kvs, r3, t3⟩ := h.ex e
  obtain ⟨dx, t, h1, h2⟩ := id r3
  refine ⟨b, dx, _, rfl, h1, b, z, kvs, rfl, r3, fun H4 e4 => ⟨_, rfl, ?_⟩⟩
  rw [t3.has]
  exact q H4 e4
theorem ev_bkixP {E : L2.St → XK} {d : List Str × Pr} (ha : Ev ta σ H (.ref b)) (hb : Ev tb σ H (.str z)) (bk : BkP CK CD C H b ds) (hz : z.length ≤ 1000) (hd : lkD ds z = some d) : EvS (tIxO CK (spBkGet CK CN) E ta tb) σ H (fun v H' => ∃ a b, v = .ref a ∧ DfAt CD H' a d.1 b ∧ PrAt C H' b d.2) := fun H1 e Q q =>
  ha H1 e _ fun H2 e2 => hb H2 (e.trans e2) _ fun H3 e3 => by
    obtain ⟨kvs, r3, t3⟩ := bk.ex ((e.trans e2).trans e3)
    obtain ⟨dx, t, h1, h2⟩ := id r3
    obtain ⟨a', b', g1, g2, g3⟩ := (tbp_get (z := z) t3.keys t3.vals).1 d hd
    refine ⟨b, dx, _, rfl, h1, b, z, kvs, rfl, r3, hz, fun v' hv' H4 e4 => ?_, fun hn => ?_⟩
    · rw [g1] at hv'
      cases hv'
      exact q _ H4 ((e2.trans e3).trans e4) ⟨a', b', rfl, g2.ex e4, g3.ex e4⟩
    · rw [g1] at hn
      cases hn
theorem ea_star {t : TA} {l : Addr} {vs : List V} (h : Ev te σ H (.ref l)) (hx : ∀ H1, Ex H H1 → SqT K H1 l xs ∨ SqL K H1 l xs) (hr : EvA t σ H vs) : EvA (tStar K te t) σ H (xs ++ vs) := fun H1 e Q q =>
  h H1 e _ fun H2 e2 => ⟨l, xs, rfl, hx H2 (e.trans e2), hr H2 (e.trans e2) _ fun H3 e3 => q H3 (e2.trans e3)⟩
theorem s_call3 {z : V} (s1 : σ[i]? = some (some x)) (s2 : σ[j]? = some (some z)) (h : EvL tl σ H xs) (k : ∀ l H1, Ex H H1 → H1 l = some (.lst xs) → sp [x, .ref l, z] H1 (fun _ H2 => D.nx σ H2) (F σ)) : tDrop (tCallS sp F (tCons (tVar i) (tCons tl (tCons (tVar j) tNil)))) D σ H :=
  ⟨x, s1, h H (Ex.refl H) _ fun l H1 _ e1 h1 => ⟨z, s2, k l H1 e1 h1⟩⟩
theorem s_call2 {z : V} (s2 : σ[j]? = some (some z)) (h : EvL tl σ H xs) (k : ∀ l H1, Ex H H1 → H1 l = some (.lst xs) → sp [.ref l, z] H1 (fun _ H2 => D.nx σ H2) (F σ)) : tDrop (tCallS sp F (tCons tl (tCons (tVar j) tNil))) D σ H :=
  h H (Ex.refl H) _ fun l H1 _ e1 h1 => ⟨z, s2, k l H1 e1 h1⟩
theorem s_callV {z : V} (s1 : σ[i]? = some (some x)) (s2 : σ[j]? = some (some y)) (s3 : σ[k]? = some (some z)) (h : sp [x, y, z] H (fun _ H2 => D.nx σ H2) (F σ)) : tDrop (tCallS sp F (tCons (tVar i) (tCons (tVar j) (tCons (tVar k) tNil)))) D σ H := ⟨x, s1, y, s2, z, s3, h⟩
theorem s_callW (s1 : σ[i]? = some (some x)) (s2 : σ[j]? = some (some y)) (h : sp [x, y] H (fun _ H2 => D.nx σ H2) (F σ)) : tDrop (tCallS sp F (tCons (tVar i) (tCons (tVar j) tNil))) D σ H := ⟨x, s1, y, s2, h⟩
theorem unp2 {t : Addr} {x1 x2 : V} {i1 i2 : Nat} {Q : L2.St → Hp → Prop} (h1 : H t = some (.tup [x1, x2])) (σ' : L2.St) (hσ : (σ.set i1 (some x1)).set i2 (some x2) = σ') (k : Q σ' H) : gTup K 2 (gCons (gName i1) (gCons (gName i2) gNil)) (.ref t) σ H Q := by
  subst hσ
  exact ⟨t, _, rfl, st_of h1, rfl, _, _, rfl, _, _, rfl, rfl, k⟩
theorem unp3 {t : Addr} {x1 x2 x3 : V} {i1 i2 i3 : Nat} {Q : L2.St → Hp → Prop} (h1 : H t = some (.tup [x1, x2, x3])) (σ' : L2.St) (hσ : ((σ.set i1 (some x1)).set i2 (some x2)).set i3 (some x3) = σ') (k : Q σ' H) : gTup K 3 (gCons (gName i1) (gCons (gName i2) (gCons (gName i3) gNil))) (.ref t) σ H Q := by
  subst hσ
  exact ⟨t, _, rfl, st_of h1, rfl, _, _, rfl, _, _, rfl, _, _, rfl, rfl, k⟩
theorem unp4 {t : Addr} {x1 x2 x3 x4 : V} {i1 i2 i3 i4 : Nat} {Q : L2.St → Hp → Prop} (h1 : H t = some (.tup [x1, x2, x3, x4])) (σ' : L2.St) (hσ : (((σ.set i1 (some x1)).set i2 (some x2)).set i3 (some x3)).set i4 (some x4) = σ') (k : Q σ' H) : gTup K 4 (gCons (gName i1) (gCons (gName i2) (gCons (gName i3) (gCons (gName i4) gNil)))) (.ref t) σ H Q := by
  subst hσ
  exact ⟨t, _, rfl, st_of h1, rfl, _, _, rfl, _, _, rfl, _, _, rfl, _, _, rfl, rfl, k⟩
theorem unp6 {t : Addr} {x1 x2 x3 x4 x5 x6 : V} {i1 i2 i3 i4 i5 i6 : Nat} {Q : L2.St → Hp → Prop} (h1 : H t = some (.tup [x1, x2, x3, x4, x5, x6])) (σ' : L2.St) (hσ : (((((σ.set i1 (some x1)).set i2 (some x2)).set i3 (some x3)).set i4 (some x4)).set i5 (some x5)).set i6 (some x6) = σ') (k : Q σ' H) :
    gTup K 6 (gCons (gName i1) (gCons (gName i2) (gCons (gName i3) (gCons (gName i4) (gCons (gName i5) (gCons (gName i6) gNil)))))) (.ref t) σ H Q := by
  subst hσ
  exact ⟨t, _, rfl, st_of h1, rfl, _, _, rfl, _, _, rfl, _, _, rfl, _, _, rfl, _, _, rfl, _, _, rfl, rfl, k⟩
/-- x, .. = e -/
theorem q_asgG {g : TG} {Pv : V → Hp → Prop} (h : EvS te σ H Pv) (k : ∀ v H1, Ex H H1 → Pv v H1 → g v σ H1 fun σ2 H2 => tz D σ2 H2) : tSeq (tAsg te g) tz D σ H := h H (Ex.refl H) _ fun v H1 e1 hv => k v H1 e1 hv
theorem es_v {v : V} (h : Ev te σ H v) : EvS te σ H (fun v' _ => v' = v) := fun H1 e Q q => h H1 e _ fun H2 e2 => q v H2 e2 rfl
end
/-! offers as a list -/
abbrev OfR := Str × Int × Int × Opd × List Str × Pr
def Ofs.list : Ofs → List OfR
  | .nil => []
  | .cons c s m op ns r os => (c, s, m, op, ns, r) :: os.list
theorem OfsAt.nth {C : Addr} {H : Hp} : ∀ {os : Ofs} {ps : List V} {i : Nat} {x : V}, OfsAt C H ps os → ps[i]? = some x → ∃ (e : OfR) (o u b : Addr), os.list[i]? = some e ∧ x = .ref o ∧ H o = some (.tup [.str e.1, .int e.2.1, .int e.2.2.1, e.2.2.2.1.v, .ref u, .ref b]) ∧ H u = some (.tup (e.2.2.2.2.1.map V.str)) ∧ PrAt C H b e.2.2.2.2.2
  | .nil, ps, i, x, h, hx => by
    unfold OfsAt at h
    rw [h] at hx
    simp at hx
  | .cons c s m op ns r os, ps, 0, x, h, hx => by
    unfold OfsAt at h
    obtain ⟨o, u, b, qs, rfl, h2, h3, h4, h5⟩ := h
    cases hx
    exact ⟨(c, s, m, op, ns, r), o, u, b, rfl, rfl, h2, h3, h4⟩
  | .cons c s m op ns r os, ps, i + 1, x, h, hx => by
    unfold OfsAt at h
    obtain ⟨o, u, b, qs, rfl, h2, h3, h4, h5⟩ := h
    exact OfsAt.nth (i := i) h5 hx
theorem Ofs.list_len : ∀ os : Ofs, os.list.length = os.len
  | .nil => rfl
  | .cons _ _ _ _ _ _ os => congrArg (· + 1) (Ofs.list_len os)
theorem Ofs.mem_sh : ∀ {os : Ofs} {e : OfR}, os.sh → e ∈ os.list → e.1.length ≤ 1000 ∧ e.2.2.2.1.sh ∧ e.2.2.2.2.1.length ≤ 100 ∧ e.2.2.2.2.2.sh
  | .nil, e, _, h => nomatch h
  | .cons c s m op ns r os, e, h, hm => by
    unfold Ofs.sh at h
    obtain ⟨h1, h2, h3, h4, h5⟩ := h
    rcases List.mem_cons.mp hm with rfl | hm
    · exact ⟨h1, h2, h3, h4⟩
    · exact Ofs.mem_sh h5 hm
theorem Ofs.mem_depth : ∀ {os : Ofs} {e : OfR}, e ∈ os.list → e.2.2.2.2.2.depth ≤ os.depth
  | .nil, e, h => nomatch h
  | .cons c s m op ns r os, e, hm => by
    unfold Ofs.depth
    rcases List.mem_cons.mp hm with rfl | hm
    · show r.depth ≤ _
      omega
    · have := Ofs.mem_depth hm
      omega
def fstF : List (Option Flt) → Option Flt
  | [] => none
  | o :: os => orF o (fstF os)
theorem orF_none {o : Option Flt} : orF o none = o := by cases o <;> rfl
theorem orF_assoc {a b c : Option Flt} : orF (orF a b) c = orF a (orF b c) := by cases a <;> rfl
theorem fstF_app : ∀ {xs ys : List (Option Flt)}, fstF (xs ++ ys) = orF (fstF xs) (fstF ys)
  | [], _ => rfl
  | x :: xs, ys => by
    show orF x (fstF (xs ++ ys)) = orF (orF x (fstF xs)) (fstF ys)
    rw [fstF_app, orF_assoc]
def fOf (ds : Ds) (bs : List Str) (e : OfR) : Option Flt := orF ((unb bs [.nm e.1, e.2.2.2.1]).map .name) (fPr ds (bs ++ e.2.2.2.2.1) e.2.2.2.2.2)
theorem fOfs_list {ds : Ds} {bs : List Str} : ∀ {os : Ofs}, fOfs ds bs os = fstF (os.list.map (fOf ds bs))
  | .nil => by
    unfold fOfs
    rfl
  | .cons c s m op ns r os => by
    unfold fOfs
    rw [fOfs_list]
    show _ = orF (orF _ _) _
    rw [orF_assoc]
section
variable {P : Program} {w : World} {K : PySem.W.Frag} {mg : Str → Option Value} {base : Heap} {C CB CK CN CD CW : Addr}
/-- check_call -/
def spChkC (CK CD C CN CW : Addr) : Sp := fun vs H Q E => ∃ (a l b : Addr) (z : Str) (ops : List Opd) (bs : List Str) (ds : Ds), vs = [.ref a, .ref l, .ref b] ∧ PrAt C H a (.call z ops) ∧ H l = some (.lst (bs.map V.str)) ∧ BkP CK CD C H b ds ∧ z.length ≤ 1000 ∧ (∀ o ∈ ops, o.sh) ∧ FOut CN CW (fCall ds bs z ops) H Q E
abbrev nsChkC : List Str := ["call", "bound", "book", "name", "operands"]
theorem scChkC : FnScope nsChkC ["call", "bound", "book"] (defScope (topS 51)) := ⟨rfl, rfl, rfl, by decide +kernel, rfl, by decide +kernel, by decide +kernel⟩
theorem ok_chkC {f fc fg : Addr} {fd fdc gd : FuncData} {k kg : Nat} (hk : 2 ≤ k) (hkg : kg + 1 ≤ k) (F : Fun K "check_call" "check_call" (topS 51) f fd) (T : TerT K mg C CB) (TD : DfT K mg CD) (CM : CoM K CK fc) (FC : FnOk P w K mg base CX0 1 fc fdc ["self", "x"] (spBkIn CK)) (BC : Binds K fdc ["self", "x"] [])
    (IX : IxM K CK fg) (FG : FnOk P w K mg base (L2.CX P w) kg fg gd ["self", "at"] (spBkGet CK CN)) (BG : Binds K gd ["self", "at"] []) (RN : RaisesX P w K mg base "NoName" CN "name" k) (RW : RaisesX P w K mg base "WrongCount" CW "name" k) (GO : CalX P w K mg base (L2.CX P w) k "check_operands" (spOps CN CW)) :
    FnOk P w K mg base (L2.CX P w) (k + 1) f fd ["call", "bound", "book"] (spChkC CK CD C CN CW) := by
  refine F.okX scChkC (fun vs H Q E h => ?_) (fun cdv A outer s H vs Q E hr h => ?_)
  · obtain ⟨a, l, b, z, ops, bs, ds, rfl, _⟩ := h
    rfl
  · obtain ⟨a, l, b, z, ops, bs, ds, rfl, ha, hl, bk, hz, hsh, q⟩ := h
    refine ⟨_, pss_cons (ps_asg (pe_fld (pv 0) rfl) (pg_tup rfl (pgs_cons (pg_name (i := 3) scChkC.nd rfl (.inl rfl)) (pgs_cons (pg_name (i := 4) scChkC.nd rfl (.inl rfl)) pgs_nil))))
      (pss_cons (ps_if (pt_cmpR (op_niO (E := E0) CM FC (hr.mono (by omega)) BC (fun σ => at0 (E := fun _ => E0) σ)) (pv 3) (pv 2) (by rfl))
        (pss_one (ps_raise (W := fun cls d _ H => E cls d H) rfl (takes_of rfl rfl rfl rfl) (RN _ rfl rfl rfl rfl rfl hr _ _ _ _ (pa_cons (pv 3) pa_nil) (by rfl) (by rfl) (by rfl)))) pss_nil)
      (pss_cons (ps_if (pt_cmpR op_ne (pe_callB call_len_seq (by rfl) TD.len PySem.boot_len (pa_cons (pv 4) pa_nil)) (pe_callB call_len_seq (by rfl) TD.len PySem.boot_len (pa_cons (pe_fld (pe_ixO (E := WE (fun cls d _ H => E cls d H)) (pv 2) (pv 3) IX FG (hr.mono hkg) BG (fun σ => passAt (takes_of rfl rfl rfl rfl) σ)) rfl) pa_nil)) (nomark _))
        (pss_one (ps_raise (W := fun cls d _ H => E cls d H) rfl (takes_of rfl rfl rfl rfl) (RW _ rfl rfl rfl rfl rfl hr _ _ _ _ (pa_cons (pv 3) pa_nil) (by rfl) (by rfl) (by rfl)))) pss_nil)
      (pss_one (ps_expr (pe_cx (E := WE (fun cls d _ H => E cls d H)) GO hr (Nat.le_refl _) (by rfl) (fun σ => passAt (takes_of rfl rfl rfl rfl) σ) (pa_cons (pv 4) (pa_cons (pv 1) pa_nil))))))), ?_⟩
    obtain ⟨t, ps, ⟨dx, h1⟩, h2, u, rfl, h3⟩ := ha.out
    refine q_asgG (es_v (ev_fld (ev_var rfl) h1 T.cl T.nP pf_parts)) (fun v H1 e1 hv => ?_)
    subst hv
    refine unp2 (e1 _ _ h2) [some (.ref a), some (.ref l), some (.ref b), some (.str z), some (.ref u)] rfl ?_
    refine q_when (b := !(lkD ds z).isSome) (et_test (ev_op (ev_var rfl) (ev_var rfl) (rv_inBkP (neg := true) (bk.ex e1)))) (fun hb H2 e2 => ?_) (fun hb H2 e2 => ?_)
    · have hn : lkD ds z = none := by simpa using hb
      have q1 : BadF CN "name" z H E := q.2 (.name z) (by unfold fCall; rw [hn])
      have x2 := e1.trans e2
      exact ⟨_, rfl, z, rfl, hz, fun d' hd' => q1 d' _ (x2.trans (Ex.new hd')) (fresh_back x2 hd') upd_same⟩
    · have hs : (lkD ds z).isSome = true := by simpa using hb
      obtain ⟨d, hd⟩ := Option.isSome_iff_exists.mp hs
      have x2 := e1.trans e2
      have lenU : ∀ {H3 : Hp}, Ex H H3 → Ev (tCB (fun xs H Q => ∃ p ys, xs = [V.ref p] ∧ (SqL K H p ys ∨ SqT K H p ys) ∧ Q (.int ys.length) H) (tCons (tVar 4) tNil)) [some (.ref a), some (.ref l), some (.ref b), some (.str z), some (.ref u)] H3 (.int (ops.length : Int)) := fun e3 => ev_is (ev_lenT (ev_var rfl) (st_of (e3 _ _ h3))) (by rw [List.length_map])
      have lenP : Ev (tCB (fun xs H Q => ∃ p ys, xs = [V.ref p] ∧ (SqL K H p ys ∨ SqT K H p ys) ∧ Q (.int ys.length) H) (tCons (tFld K (tIxO CK (spBkGet CK CN) (WE (fun cls d _ H => E cls d H)) (tVar 2) (tVar 3)) "params") tNil)) [some (.ref a), some (.ref l), some (.ref b), some (.str z), some (.ref u)] H2 (.int (d.1.length : Int)) := fun H3 e3 Q3 q3 => by
        refine ev_bkixP (CD := CD) (C := C) (ds := ds) (ev_var rfl) (ev_var rfl) (bk.ex x2) hz hd H3 e3 _ fun v H4 e4 ⟨a4, b4, hv, ⟨dx4, t4, y1, y2⟩, _⟩ => ?_
        subst hv
        refine ⟨a4, CD, dx4, _, .ref t4, rfl, y1, TD.cl, TD.nP, df_params, t4, _, rfl, .inr (st_of y2), ?_⟩
        rw [List.length_map]
        exact q3 H4 e4
      refine q_when (b := !decide (V.int (ops.length : Int) = V.int (d.1.length : Int))) (et_test (ev_op (lenU x2) lenP (rv_ne rfl))) (fun hb2 H3 e3 => ?_) (fun hb2 H3 e3 => ?_)
      · have hne : ops.length ≠ d.1.length := fun y => by
          rw [y, decide_eq_true rfl] at hb2
          cases hb2
        have q1 : BadF CW "name" z H E := q.2 (.count z) (by unfold fCall; rw [hd]; exact if_neg hne)
        have x3 := x2.trans e3
        exact ⟨_, rfl, z, rfl, hz, fun d' hd' => q1 d' _ (x3.trans (Ex.new hd')) (fresh_back x3 hd') upd_same⟩
      · have heq : ops.length = d.1.length := by
          have : V.int (ops.length : Int) = V.int (d.1.length : Int) := by simpa using hb2
          injection this with this
          omega
        have x3 := x2.trans e3
        have ef : fCall ds bs z ops = (unb bs ops).map .name := by unfold fCall; rw [hd]; exact if_pos heq
        rw [ef] at q
        exact s_callW rfl rfl ⟨u, l, ops, bs, rfl, .inr (x3 _ _ h3), x3 _ _ hl, hsh, (q.ex x3)⟩
end
end Fs

set_option Elab.async false
set_option linter.all false
set_option maxRecDepth 100000
set_option maxHeartbeats 16000000
/-! programs: a process checked -/
namespace Fs
open PySem L2 Evl FsE FsC FsR FsA FsD FsU FsK StX
section
variable {σ : L2.St} {H : Hp} {tl : TE} {tz : TS} {D : Ends} {sp : Sp} {F : L2.St → XK} {x y z : V} {xs : List V} {i j k : Nat}
theorem q_call3 (s1 : σ[i]? = some (some x)) (s2 : σ[j]? = some (some z)) (h : EvL tl σ H xs) (k : ∀ l H1, Ex H H1 → H1 l = some (.lst xs) → sp [x, .ref l, z] H1 (fun _ H2 => tz D σ H2) (F σ)) : tSeq (tDrop (tCallS sp F (tCons (tVar i) (tCons tl (tCons (tVar j) tNil))))) tz D σ H := s_call3 (D := { D with nx := tz D }) s1 s2 h k
theorem q_call2 (s2 : σ[j]? = some (some z)) (h : EvL tl σ H xs) (k : ∀ l H1, Ex H H1 → H1 l = some (.lst xs) → sp [.ref l, z] H1 (fun _ H2 => tz D σ H2) (F σ)) : tSeq (tDrop (tCallS sp F (tCons tl (tCons (tVar j) tNil)))) tz D σ H := s_call2 (D := { D with nx := tz D }) s2 h k
theorem q_callV (s1 : σ[i]? = some (some x)) (s2 : σ[j]? = some (some y)) (s3 : σ[k]? = some (some z)) (h : sp [x, y, z] H (fun _ H2 => tz D σ H2) (F σ)) : tSeq (tDrop (tCallS sp F (tCons (tVar i) (tCons (tVar j) (tCons (tVar k) tNil))))) tz D σ H := s_callV (D := { D with nx := tz D }) s1 s2 s3 h
end
theorem orF_some {f : Flt} {o : Option Flt} : orF (some f) o = some f := rfl
theorem FOut.seq {CN CW : Addr} {o1 o2 : Option Flt} {H : Hp} {Q : VK} {E : XK} (h : FOut CN CW (orF o1 o2) H Q E) : FOut CN CW o1 H (fun _ H' => Ex H H' ∧ o1 = none) E := by
  cases o1 with
  | none => exact ⟨fun _ H' e => ⟨e, rfl⟩, (fun f hf => nomatch hf)⟩
  | some f => exact ⟨(fun hf => nomatch hf), fun g hg => h.2 g hg⟩
theorem FOut.imp {CN CW : Addr} {o : Option Flt} {H : Hp} {Q Q' : VK} {E : XK} (h : FOut CN CW o H Q E) (k : ∀ H', Ex H H' → o = none → Q .non H' → Q' .non H') : FOut CN CW o H Q' E := ⟨fun z H' e => k H' e z (h.1 z H' e), h.2⟩
section
variable {P : Program} {w : World} {K : PySem.W.Frag} {mg : Str → Option Value} {base : Heap} {C CB CK CN CD CW : Addr}
def spChkP (CK CD C CN CW : Addr) (d : Nat) : Sp := fun vs H Q E => ∃ (a l b : Addr) (p : Pr) (bs : List Str) (ds : Ds), vs = [.ref a, .ref l, .ref b] ∧ PrAt C H a p ∧ p.depth ≤ (d : Int) ∧ p.sh ∧ H l = some (.lst (bs.map V.str)) ∧ (bs.length : Int) + 1000 * p.depth ≤ 50000 ∧ BkP CK CD C H b ds ∧ FOut CN CW (fPr ds bs p) H Q E
abbrev nsChkP : List Str := ["process", "bound", "book", "channel", "seat", "seats", "operand", "names", "rest", "name", "left", "right", "yes", "no"]
theorem scChkP : FnScope nsChkP ["process", "bound", "book"] (defScope (topS 50)) := ⟨rfl, rfl, rfl, by decide +kernel, rfl, by decide +kernel, by decide +kernel⟩
theorem ok_chkP {f : Addr} {fd : FuncData} {k : Nat} (hk : 2 ≤ k) (F : Fun K "check_process" "check_process" (topS 50) f fd) (T : TerT K mg C CB) (hm : mg "check_process" = some (.ref f)) (kp : PySem.W.keepIn K (.ref f) = true) (hb : Binds K fd ["process", "bound", "book"] []) (GO : CalX P w K mg base (L2.CX P w) k "check_operands" (spOps CN CW)) (GC : CalX P w K mg base (L2.CX P w) k "check_call" (spChkC CK CD C CN CW)) :
    ∀ d : Nat, FnOk P w K mg base (L2.CX P w) (k + d) f fd ["process", "bound", "book"] (spChkP CK CD C CN CW d)
  | 0 => by
    obtain ⟨k, rfl⟩ : ∃ m, k = m + 1 := ⟨k - 1, by omega⟩
    refine F.okX scChkP (fun vs H Q E h => ?_) (fun cdv A outer s H vs Q E hr h => ?_)
    · obtain ⟨a, l, b, p, bs, ds, rfl, _⟩ := h
      rfl
    · obtain ⟨a, l, b, p, bs, ds, rfl, _, hd, _⟩ := h
      have := Pr.depth_pos p
      exact absurd hd (by omega)
  | d + 1 => by
    have ih := ok_chkP hk F T hm kp hb GO GC d
    have GP : CalX P w K mg base (L2.CX P w) (k + d) "check_process" (spChkP CK CD C CN CW d) := ⟨f, fd, _, ih, hm, kp, hb⟩
    show FnOk P w K mg base (L2.CX P w) (k + d + 1) f fd _ _
    refine F.okX scChkP (fun vs H Q E h => ?_) (fun cdv A outer s H vs Q E hr h => ?_)
    · obtain ⟨a, l, b, p, bs, ds, rfl, _⟩ := h
      rfl
    · obtain ⟨a, l, b, p, bs, ds, rfl, ha, hd, hsh, hl, hbl, bk, q⟩ := h
      refine ⟨_, pss_one (ps_if (pt_cmpR op_eq (pe_fld (pv 0) rfl) pe_str (nomark _))
        (pss_one (ps_for (passes_of rfl) rfl (pi_tup (pe_fld (pv 0) rfl)) (pg_tup rfl (pgs_cons (pg_name (i := 3) scChkP.nd rfl (.inl rfl)) (pgs_cons (pg_name (i := 4) scChkP.nd rfl (.inl rfl)) (pgs_cons (pg_name (i := 5) scChkP.nd rfl (.inl rfl)) (pgs_cons (pg_name (i := 6) scChkP.nd rfl (.inl rfl)) (pgs_cons (pg_name (i := 7) scChkP.nd rfl (.inl rfl)) (pgs_cons (pg_name (i := 8) scChkP.nd rfl (.inl rfl)) pgs_nil)))))))
          (pss_cons (ps_expr (pe_cx (E := WE (fun cls d _ H => E cls d H)) GO hr (by omega) (by rfl) (fun σ => passAt (takes_of rfl rfl rfl rfl) σ) (pa_cons (pe_lst (pa_cons (pv 3) (pa_cons (pv 6) pa_nil))) (pa_cons (pv 1) pa_nil))))
            (pss_one (ps_expr (pe_cx (E := WE (fun cls d _ H => E cls d H)) GP hr (Nat.le_refl _) (by rfl) (fun σ => passAt (takes_of rfl rfl rfl rfl) σ) (pa_cons (pv 8) (pa_cons (pe_lst (pa_star (pv 1) (pa_star (pv 7) pa_nil))) (pa_cons (pv 2) pa_nil)))))))))
        (pss_one (ps_if (pt_cmpR op_eq (pe_fld (pv 0) rfl) pe_str (nomark _))
          (pss_cons (ps_asg (pe_fld (pv 0) rfl) (pg_tup rfl (pgs_cons (pg_name (i := 9) scChkP.nd rfl (.inl rfl)) (pgs_cons (pg_name (i := 5) scChkP.nd rfl (.inl rfl)) (pgs_cons (pg_name (i := 8) scChkP.nd rfl (.inl rfl)) pgs_nil)))))
            (pss_one (ps_expr (pe_cx (E := WE (fun cls d _ H => E cls d H)) GP hr (Nat.le_refl _) (by rfl) (fun σ => passAt (takes_of rfl rfl rfl rfl) σ) (pa_cons (pv 8) (pa_cons (pe_lst (pa_star (pv 1) (pa_cons (pv 9) pa_nil))) (pa_cons (pv 2) pa_nil)))))))
          (pss_one (ps_if (pt_cmpR op_eq (pe_fld (pv 0) rfl) pe_str (nomark _))
            (pss_cons (ps_asg (pe_fld (pv 0) rfl) (pg_tup rfl (pgs_cons (pg_name (i := 10) scChkP.nd rfl (.inl rfl)) (pgs_cons (pg_name (i := 11) scChkP.nd rfl (.inl rfl)) (pgs_cons (pg_name (i := 12) scChkP.nd rfl (.inl rfl)) (pgs_cons (pg_name (i := 13) scChkP.nd rfl (.inl rfl)) pgs_nil))))))
              (pss_cons (ps_expr (pe_cx (E := WE (fun cls d _ H => E cls d H)) GO hr (by omega) (by rfl) (fun σ => passAt (takes_of rfl rfl rfl rfl) σ) (pa_cons (pe_lst (pa_cons (pv 10) (pa_cons (pv 11) pa_nil))) (pa_cons (pv 1) pa_nil))))
              (pss_cons (ps_expr (pe_cx (E := WE (fun cls d _ H => E cls d H)) GP hr (Nat.le_refl _) (by rfl) (fun σ => passAt (takes_of rfl rfl rfl rfl) σ) (pa_cons (pv 12) (pa_cons (pv 1) (pa_cons (pv 2) pa_nil)))))
              (pss_one (ps_expr (pe_cx (E := WE (fun cls d _ H => E cls d H)) GP hr (Nat.le_refl _) (by rfl) (fun σ => passAt (takes_of rfl rfl rfl rfl) σ) (pa_cons (pv 13) (pa_cons (pv 1) (pa_cons (pv 2) pa_nil)))))))))
            (pss_one (ps_expr (pe_cx (E := WE (fun cls d _ H => E cls d H)) GC hr (by omega) (by rfl) (fun σ => passAt (takes_of rfl rfl rfl rfl) σ) (pa_cons (pv 0) (pa_cons (pv 1) (pa_cons (pv 2) pa_nil))))))))))), ?_⟩
      obtain ⟨t, ps, ⟨dx, h1⟩, h2, h3⟩ := ha.out
      have kd : ∀ {H1 : Hp} (x : Str), Ex H H1 → EvT (tTest (tOp rEq (tFld K (tVar 0) "kind") (tC (.str x)))) [some (.ref a), some (.ref l), some (.ref b), none, none, none, none, none, none, none, none, none, none, none] H1 (decide (V.str p.kind = V.str x)) := fun x e => et_test (ev_op (ev_fld (ev_var rfl) (e _ _ h1) T.cl T.nK pf_kind) ev_c (rv_eq rfl))
      have bst : ∀ {H1 : Hp} {ys : List V} {tt : TA} {σ1 : L2.St}, Ex H H1 → σ1[1]? = some (some (.ref l)) → EvA tt σ1 H1 ys → bs.length + ys.length ≤ 100000 → EvL (tLst (tStar K (tVar 1) tt)) σ1 H1 (bs.map V.str ++ ys) := fun e s1 h hz => el_lst (ea_star (ev_var s1) (fun H2 e2 => .inr (sq_of ((e.trans e2) _ _ hl))) h) (by rw [List.length_append, List.length_map]; exact hz)
      cases p with
      | choice os =>
        refine s_if (b := true) (et_is (kd "choice" (Ex.refl H)) (by show decide (V.str "choice" = V.str "choice") = true; decide +kernel)) (fun _ H1 e1 => ?_) (fun z => nomatch z)
        have hdo : os.depth < (d : Int) + 1 := by
          have : (Pr.choice os).depth = 1 + os.depth := by rw [Pr.depth]
          omega
        have hqf : fPr ds bs (.choice os) = fstF (os.list.map (fOf ds bs)) := by rw [fPr, fOfs_list]
        rw [hqf] at q
        have hso : os.sh := by
          unfold Pr.sh at hsh
          exact hsh
        refine s_forT (K := K) (xs := ps) (ev_fld (ev_var rfl) (e1 _ _ h1) T.cl T.nP pf_parts) (st_of (e1 _ _ h2)) (fun i σ' H' => ∃ v3 v4 v5 v6 v7 v8 : Option V, σ' = [some (.ref a), some (.ref l), some (.ref b), v3, v4, v5, v6, v7, v8, none, none, none, none, none] ∧ Ex H H' ∧ fstF ((os.list.take i).map (fOf ds bs)) = none)
          (fun H2 e2 => ⟨_, _, _, _, _, _, rfl, e1.trans e2, rfl⟩) (fun i σ' H' _ ⟨_, _, _, _, _, _, _, e, _⟩ => st_of (e _ _ h2)) (fun i x σ' H' hx ⟨v3, v4, v5, v6, v7, v8, hσ, e, h0⟩ => ?_) (fun σ' H' ⟨v3, v4, v5, v6, v7, v8, hσ, e, h0⟩ => ?_)
        · subst hσ
          obtain ⟨er, o, u, br, g0, rfl, g1, g2, g3⟩ := OfsAt.nth (OfsAt.ex e h3) hx
          obtain ⟨c, s0, m, op, ns, r⟩ := er
          have hmem := List.mem_of_getElem? g0
          obtain ⟨m1, m2, m3, m4⟩ := Ofs.mem_sh hso hmem
          have m5 := Ofs.mem_depth hmem
          have split : fstF (os.list.map (fOf ds bs)) = orF (fOf ds bs (c, s0, m, op, ns, r)) (fstF ((os.list.drop (i + 1)).map (fOf ds bs))) := by
            have hi := (List.getElem?_eq_some_iff.mp g0).1
            have hl2 : os.list = os.list.take i ++ (c, s0, m, op, ns, r) :: os.list.drop (i + 1) := by
              conv => lhs; rw [← List.take_append_drop i os.list, List.drop_eq_getElem_cons hi, (List.getElem?_eq_some_iff.mp g0).2]
            have hl3 : os.list.map (fOf ds bs) = (os.list.take i).map (fOf ds bs) ++ (fOf ds bs (c, s0, m, op, ns, r)) :: (os.list.drop (i + 1)).map (fOf ds bs) := by
              conv => lhs; rw [hl2, List.map_append, List.map_cons]
            rw [hl3, fstF_app, h0]
            rfl
          have next : fstF ((os.list.take (i + 1)).map (fOf ds bs)) = fOf ds bs (c, s0, m, op, ns, r) := by
            rw [List.take_add_one, g0, List.map_append, fstF_app, h0]
            show orF none (orF _ none) = _
            rw [orF_none]
            rfl
          rw [split] at q
          have qo : FOut CN CW (orF ((unb bs [.nm c, op]).map .name) (fPr ds (bs ++ ns) r)) H (fun _ H' => Ex H H' ∧ fOf ds bs (c, s0, m, op, ns, r) = none) E := q.seq
          refine unp6 g1 [some (.ref a), some (.ref l), some (.ref b), some (.str c), some (.int s0), some (.int m), some op.v, some (.ref u), some (.ref br), none, none, none, none, none] rfl ?_
          refine q_call2 (xs := [.str c, op.v]) rfl (el_lst (ea_cons (ev_var rfl) (ea_cons (ev_var rfl) ea_nil)) (by show 2 ≤ 100000; decide)) (fun l1 H2 e2 k2 => ?_)
          have x2 := e.trans e2
          refine ⟨l1, l, [.nm c, op], bs, rfl, .inl k2, x2 _ _ hl, fun o ho => ?_, (qo.seq.ex x2).imp fun H3 e3 z3 _ => ?_⟩
          · rcases List.mem_cons.mp ho with rfl | ho
            · exact m1
            · rw [List.mem_singleton.mp ho]
              exact m2
          · have x3 := x2.trans e3
            rw [z3] at qo
            refine s_call3 rfl rfl (bst x3 rfl (ea_star (xs := ns.map V.str) (ev_var rfl) (fun H4 e4 => .inl (st_of (((e2.trans e3).trans e4) _ _ g2))) ea_nil) (by rw [List.append_nil, List.length_map]; have m3' : ns.length ≤ 100 := m3; have := Pr.depth_pos (.choice os); omega)) (fun l2 H4 e4 k4 => ?_)
            have x4 := x3.trans e4
            refine ⟨br, l2, b, r, bs ++ ns, ds, rfl, g3.ex ((e2.trans e3).trans e4), by have : r.depth ≤ os.depth := m5; omega, m4, by rw [k4, List.append_nil, List.map_append], ?_, bk.ex x4, (qo.ex x4).imp fun H5 e5 z5 w5 => ?_⟩
            · have m3' : ns.length ≤ 100 := m3
              have : r.depth ≤ os.depth := m5
              have : (Pr.choice os).depth = 1 + os.depth := by rw [Pr.depth]
              rw [List.length_append]
              omega
            · exact ⟨_, _, _, _, _, _, rfl, x4.trans e5, by rw [next]; exact w5.2⟩
        · subst hσ
          have hl2 : ps.length = os.list.length := by rw [Ofs.list_len]; exact OfsAt.len h3
          rw [hl2, List.take_length] at h0
          exact q.1 h0 H' e
      | new n m r =>
        refine s_if (b := false) (et_is (kd "choice" (Ex.refl H)) (by show decide (V.str "new" = V.str "choice") = false; decide +kernel)) (fun z => nomatch z) (fun _ H1 e1 => ?_)
        refine s_if (b := true) (et_is (kd "new" e1) (by show decide (V.str "new" = V.str "new") = true; decide +kernel)) (fun _ H2 e2 => ?_) (fun z => nomatch z)
        have x2 := e1.trans e2
        obtain ⟨br, rfl, h4⟩ := h3
        have hdd : (Pr.new n m r).depth = 1 + r.depth := by rw [Pr.depth]
        have hsh2 : n.length ≤ 1000 ∧ r.sh := by
          unfold Pr.sh at hsh
          exact hsh
        refine q_asgG (es_v (ev_fld (ev_var rfl) (x2 _ _ h1) T.cl T.nP pf_parts)) (fun v H3 e3 hv => ?_)
        subst hv
        have x3 := x2.trans e3
        refine unp3 (x3 _ _ h2) [some (.ref a), some (.ref l), some (.ref b), none, none, some (.int m), none, none, some (.ref br), some (.str n), none, none, none, none] rfl ?_
        refine s_call3 rfl rfl (bst x3 rfl (ea_cons (ev_var rfl) ea_nil) (by show bs.length + 1 ≤ 100000; have := Pr.depth_pos (.new n m r); omega)) (fun l2 H4 e4 k4 => ?_)
        have x4 := x3.trans e4
        have hqf : fPr ds bs (.new n m r) = fPr ds (bs ++ [n]) r := by rw [fPr]
        rw [hqf] at q
        exact ⟨br, l2, b, r, bs ++ [n], ds, rfl, h4.ex x4, by omega, hsh2.2, by rw [k4, List.map_append]; rfl, by rw [List.length_append]; show ((bs.length + 1 : Nat) : Int) + _ ≤ _; omega, bk.ex x4, q.ex x4⟩
      | cond lo ro yp np =>
        refine s_if (b := false) (et_is (kd "choice" (Ex.refl H)) (by show decide (V.str "if" = V.str "choice") = false; decide +kernel)) (fun z => nomatch z) (fun _ H1 e1 => ?_)
        refine s_if (b := false) (et_is (kd "new" e1) (by show decide (V.str "if" = V.str "new") = false; decide +kernel)) (fun z => nomatch z) (fun _ H2 e2 => ?_)
        have x2' := e1.trans e2
        refine s_if (b := true) (et_is (kd "if" x2') (by show decide (V.str "if" = V.str "if") = true; decide +kernel)) (fun _ H2 e2 => ?_) (fun z => nomatch z)
        have x2 := x2'.trans e2
        obtain ⟨by_, bn, rfl, h4, h5⟩ := h3
        have hdd : (Pr.cond lo ro yp np).depth = 1 + max yp.depth np.depth := by rw [Pr.depth]
        have hsh2 : lo.sh ∧ ro.sh ∧ yp.sh ∧ np.sh := by
          unfold Pr.sh at hsh
          exact hsh
        have hqf : fPr ds bs (.cond lo ro yp np) = orF ((unb bs [lo, ro]).map .name) (orF (fPr ds bs yp) (fPr ds bs np)) := by rw [fPr]
        rw [hqf] at q
        refine q_asgG (es_v (ev_fld (ev_var rfl) (x2 _ _ h1) T.cl T.nP pf_parts)) (fun v H3 e3 hv => ?_)
        subst hv
        have x3 := x2.trans e3
        refine unp4 (x3 _ _ h2) [some (.ref a), some (.ref l), some (.ref b), none, none, none, none, none, none, none, some lo.v, some ro.v, some (.ref by_), some (.ref bn)] rfl ?_
        refine q_call2 (xs := [lo.v, ro.v]) rfl (el_lst (ea_cons (ev_var rfl) (ea_cons (ev_var rfl) ea_nil)) (by show 2 ≤ 100000; decide)) (fun l1 H4 e4 k4 => ?_)
        have x4 := x3.trans e4
        refine ⟨l1, l, [lo, ro], bs, rfl, .inl k4, x4 _ _ hl, fun o ho => ?_, (q.seq.ex x4).imp fun H5 e5 z5 _ => ?_⟩
        · rcases List.mem_cons.mp ho with rfl | ho
          · exact hsh2.1
          · rw [List.mem_singleton.mp ho]
            exact hsh2.2.1
        · have x5 := x4.trans e5
          rw [z5] at q
          have q2 : FOut CN CW (orF (fPr ds bs yp) (fPr ds bs np)) H Q E := q
          refine q_callV rfl rfl rfl ⟨by_, l, b, yp, bs, ds, rfl, h4.ex x5, by omega, hsh2.2.2.1, x5 _ _ hl, by omega, bk.ex x5, (q2.seq.ex x5).imp fun H6 e6 z6 _ => ?_⟩
          have x6 := x5.trans e6
          rw [z6] at q2
          have q3 : FOut CN CW (fPr ds bs np) H Q E := q2
          exact s_callV rfl rfl rfl ⟨bn, l, b, np, bs, ds, rfl, h5.ex x6, by omega, hsh2.2.2.2, x6 _ _ hl, by omega, bk.ex x6, q3.ex x6⟩
      | call z ops =>
        refine s_if (b := false) (et_is (kd "choice" (Ex.refl H)) (by show decide (V.str "call" = V.str "choice") = false; decide +kernel)) (fun z => nomatch z) (fun _ H1 e1 => ?_)
        refine s_if (b := false) (et_is (kd "new" e1) (by show decide (V.str "call" = V.str "new") = false; decide +kernel)) (fun z => nomatch z) (fun _ H2 e2 => ?_)
        refine s_if (b := false) (et_is (kd "if" (e1.trans e2)) (by show decide (V.str "call" = V.str "if") = false; decide +kernel)) (fun z => nomatch z) (fun _ H3 e3 => ?_)
        have x3 := (e1.trans e2).trans e3
        have hsh2 : z.length ≤ 1000 ∧ ops.length ≤ 100 ∧ ∀ o ∈ ops, o.sh := by
          unfold Pr.sh at hsh
          exact hsh
        have hqf : fPr ds bs (.call z ops) = fCall ds bs z ops := by rw [fPr]
        rw [hqf] at q
        exact s_callV rfl rfl rfl ⟨a, l, b, z, ops, bs, ds, rfl, ha.ex x3, x3 _ _ hl, bk.ex x3, hsh2.1, hsh2.2.2, q.ex x3⟩
end
end Fs

set_option Elab.async false
set_option linter.all false
set_option maxRecDepth 100000
set_option maxHeartbeats 4000000
/-! for x in o, list(o): o of an own class whose __iter__ hands out the iterator of a tuple or a dict that it keeps. -/
namespace FsI
open PySem PySem.Spec PyProof.Rows L2 Evl ClX
/-- at it the iterator of the tuple at t, at its start -/
def TiO (t it : Addr) : HO := .ext fun h => h.IsTupleIter it t 0
theorem tiO_ok {P : Program} {w : World} {H : Hp} {h : Heap} {t it : Addr} (e : h.IsTupleIter it t 0) : ObjOk P w H h it (TiO t it) :=
  ⟨e, let ⟨o, ho, _⟩ := e; ⟨o, ho⟩, fun _ _ st k => st.at k⟩
section
variable {prog : Program} {w : World} {A : Around} {E : Value → Shared → Prop} {s : Shared}
theorem call_iter_tuple {t : Addr} {items : Array Value} {Q : Value → Shared → Prop} (hl : s.heap.IsTuple t items) (h : Q (.ref s.heap.objs.size) { s with heap := s.heap.push { cls := .type "tuple_iterator", data := .fields #[.ref t, .int 0 0] } }) :
    wpAny (model prog w) A (call (.builtin "iter") [.ref t]) Q E s := by
  refine Calls.call_function_entry (by decide +kernel) (by decide +kernel) PySem.W.kdk_entry_iter (PySem.W.kdk_args_iter _) ?_
  unfold Builtin.«iter»
  refine wpAny_bind (m := someArgs "iter" 1 2 _) (wpAny_of_eq (a := [Value.ref t]) (by first | rfl | kernel_rfl!) ?_)
  show wpAny _ _ (pyIter (.ref t) >>= _) _ _ _
  refine wpAny_bind (wpAny_pyIter_tuple hl ?_)
  exact wpAny_pure ⟨_, rfl, h⟩
end
/-- iter(a tuple): new, and above the base -/
def rIterT (K : PySem.W.Frag) (base : Heap) : List V → Hp → VK → Prop := fun xs H Q => ∃ (t : Addr) (zs : List V), xs = [.ref t] ∧ SqT K H t zs ∧ ∀ it, H it = none → base.objs.size ≤ it → Q (.ref it) (upd H it (TiO t it))
theorem call_iterT {X : Cx} : CallR X (.builtin "iter") (rIterT X.K X.base) := by
  intro pins s σ H xs us Q I r h
  obtain ⟨t, zs, rfl, hq, q⟩ := h
  obtain rfl := Vals.ref1 r
  obtain ⟨its, rv, pl, hz⟩ := I.tuple hq
  refine call_iter_tuple (show s.heap.IsTuple t its.toArray from pl) ?_
  exact ⟨.ref s.heap.objs.size, _, I.laid (t' := s.toks) (fun b u e => Heap.get?_push_of_some _ e) (Nat.le_refl _) (tiO_ok ⟨_, Heap.get?_push_size _ rfl, rfl, rfl⟩), rfl, q _ (I.hok.fresh (Nat.le_refl _)) (Nat.le_trans I.ok.bsz I.sz)⟩
/-- what __iter__ promises: R a t: the instance at a keeps the tuple at t -/
def spItT (base : Heap) (R : Hp → Addr → Addr → Prop) : Sp := fun vs H Q _ => ∃ (a t : Addr), vs = [.ref a] ∧ R H a t ∧ ∀ it, H it = none → base.objs.size ≤ it → Q (.ref it) (upd H it (TiO t it))
structure ItM (K : PySem.W.Frag) (C f : Addr) : Prop where
  at_ : PySem.W.findIn K (.ref C) "__iter__" = some (some (.ref f))
  fn : PySem.W.isFn K (.ref f) = true
theorem restrictS (h : Heap) (p : Addr → Bool) : ∃ G : Heap, (∀ b, p b = true → G.get? b = h.get? b) ∧ (∀ b, p b = false → G.get? b = none) ∧ G.objs.size = h.objs.size := by
  obtain ⟨l, hl⟩ : ∃ l : List Addr, l = (List.range h.objs.size).filter fun b => !p b := ⟨_, rfl⟩
  have m1 : ∀ b, b ∈ l → p b = false := fun b hb => by
    rw [hl] at hb
    have z := (List.mem_filter.mp hb).2
    simpa using z
  have m2 : ∀ b, b < h.objs.size → p b = false → b ∈ l := fun b h1 h2 => by
    rw [hl]
    exact List.mem_filter.mpr ⟨List.mem_range.mpr h1, by simp [h2]⟩
  refine ⟨PySem.W.hideAll h l, fun b hb => ?_, fun b hb => ?_, PySem.W.hideAll_size l h⟩
  · cases e : h.get? b with
    | some o => exact PySem.W.hideAll_get l e fun hm => by rw [m1 b hm] at hb; cases hb
    | none =>
      cases q : (PySem.W.hideAll h l).get? b with
      | none => rfl
      | some o =>
        have z := PySem.W.of_hideAll l q
        rw [e] at z; cases z
  · cases q : (PySem.W.hideAll h l).get? b with
    | none => rfl
    | some o =>
      have z := PySem.W.of_hideAll l q
      rw [PySem.W.hideAll_none l (m2 b (Heap.lt_size z) hb)] at q; cases q
section
variable {X : Cx} {pins : List (Addr × Obj)} {σ : L2.St} {H : Hp} {s s' : Shared}
/-- the base of now: as large as the heap -/
theorem env_now (e0 : Env0 X.prog X.w X.K X.mg X.base A X.stack s H) : ∃ B : Heap, B.objs.size = s.heap.objs.size ∧ Env0 X.prog X.w X.K X.mg B A X.stack s H := by
  obtain ⟨B, b1, b2, b3⟩ := restrictS s.heap fun b => (X.base.get? b).isSome
  have hB : ∀ b o, X.base.get? b = some o → B.get? b = some o := fun b o q => by
    rw [b1 b (by rw [q]; rfl)]
    exact (e0.bs b o q).1
  have hB2 : ∀ b o, B.get? b = some o → X.base.get? b = some o := fun b o q => by
    cases z : X.base.get? b with
    | none =>
      rw [b2 b (by rw [z]; rfl)] at q
      cases q
    | some o' =>
      rw [hB b o' z] at q
      exact q
  obtain ⟨mb, x1, x2⟩ := e0.mod.blt
  refine ⟨B, b3, e0.frames, ⟨e0.mod.kin.keeps hB, e0.mod.glob.keeps hB, ⟨mb, x1.keeps hB, x2⟩, e0.mod.nolimit.keeps hB⟩, fun b o q => e0.bs b o (hB2 b o q), by rw [b3]; exact Nat.le_refl _, funFrames_none e0.funs fun L hL => ?_, e0.frf, e0.hok, e0.bare⟩
  refine b2 L ?_
  rw [(e0.funs.mem hL).1]
  rfl
/-- an object that is tracked and new may be forgotten -/
theorem untrack {it : Addr} {φ : Heap → Prop} (I : Inv X pins σ (upd H it (.ext φ)) s) (hn : H it = none) : Inv X pins σ H s := by
  have ne : ∀ b u, H b = some u → (upd H it (.ext φ)) b = some u := fun b u e => by
    rw [upd_ne (fun z => by rw [z, hn] at e; cases e)]
    exact e
  have back : ∀ b, (upd H it (.ext φ)) b = none → H b = none := fun b e => by
    by_cases z : b = it
    · rw [z, upd_same] at e
      cases e
    · rw [upd_ne z] at e
      exact e
  have un : ∀ b u, (∀ ψ, u ≠ .ext ψ) → (upd H it (.ext φ)) b = some u → H b = some u := fun b u hu e => by
    by_cases z : b = it
    · rw [z, upd_same] at e
      cases e
      exact absurd rfl (hu φ)
    · rw [upd_ne z] at e
      exact e
  refine ⟨I.ok, I.os, I.bare, ⟨I.base.keep, I.base.slot, fun b o q n hx => back b (I.base.free b o q n hx), I.base.there, fun b xs q => un b _ (fun _ z => nomatch z) (I.base.tups b xs q), fun b o u q => un b _ (fun _ z => nomatch z) (I.base.frzs b o u q), fun b ps q => ?_⟩, I.loc, I.cell, back _ I.free, fun x c e => back _ (I.freeC x c e), fun p hp => ?_, fun b u e => ?_, I.len⟩
  · obtain ⟨more, z⟩ := I.base.tbls b ps q
    exact ⟨more, un b _ (fun _ z => nomatch z) z⟩
  · obtain ⟨h1, h2, h3⟩ := I.pin p hp
    exact ⟨h1, back _ h2, h3⟩
  · exact (I.hok b u (ne b u e)).stay (fun c v _ q => q) (fun c q => un c _ (fun _ z => nomatch z) q) fun c xs q => un c _ (fun _ z => nomatch z) q
end
/-- the tuple that the instance keeps -/
def tKeeps (C : Addr) (R : Hp → Addr → Addr → Prop) (te : TE) : TE := fun σ H Q => te σ H fun x H1 => ∃ (a dx t : Addr) (fs : List (Str × V)), x = .ref a ∧ H1 a = some (.ins C dx fs) ∧ R H1 a t ∧ Q (.ref t) H1
section
variable {X : Cx} {k : Nat} {C f : Addr} {fd : FuncData} {ps : List Str} {R : Hp → Addr → Addr → Prop}
/-- pyIter of the instance -/
theorem own_iter {pins : List (Addr × Obj)} {σ : L2.St} {H : Hp} {s : Shared} {a t dx : Addr} {fs : List (Str × V)} {A : Around} {Q : Value → Shared → Prop} (sb : Sub X k A) (M : ItM X.K C f) (F : ∀ base, FnOk X.prog X.w X.K X.mg base CX0 k f fd ps (spItT base R)) (hb : Binds X.K fd ps [])
    (I : Inv X pins σ H s) (ha : H a = some (.ins C dx fs)) (hR : R H a t) (h : ∀ it s', Inv X pins σ H s' → s'.heap.IsTupleIter it t 0 → FpOk X pins H it → Q (.ref it) s') : wpAny (model X.prog X.w) A (pyIter (.ref a)) Q X.xe s := by
  obtain ⟨mA, J, _⟩ := ins_get I.hok ha
  obtain ⟨od, J, _⟩ := J.look
  obtain ⟨m, hF⟩ := I.fr
  refine PySem.W.owit_iter hF I.ok.mod.kin J M.at_ M.fn ?_
  have e0 : Env0 X.prog X.w X.K X.mg X.base A X.stack s H := by
    have e := I.env0
    exact ⟨by rw [sb.fr]; exact e.frames, e.mod, e.bs, e.bsz, e.funs, e.frf, e.hok, e.bare⟩
  obtain ⟨B, hBs, e1⟩ := env_now e0
  have sp : spItT B R [.ref a] H (fun v H' => ∃ it, v = .ref it ∧ H it = none ∧ B.objs.size ≤ it ∧ H' = upd H it (TiO t it)) (fun _ _ _ => False) := ⟨a, t, rfl, hR, fun it h1 h2 => ⟨it, rfl, h1, h2, rfl⟩⟩
  have hl := (F B).len _ _ _ _ sp
  have bnd := hb s [.ref a] I.kIn (by rw [List.append_nil]; exact hl)
  rw [List.append_nil] at bnd
  refine wpAny_call (codeAny_mono ((F B).run A X.stack s H ⟨[.ref a], []⟩ [.ref a] [.ref a] _ (fun _ _ _ => False) sb.room e1 bnd (.cons rfl .nil) sp) fun r s' hq => ?_)
  cases r with
  | error e => exact (hq : False).elim
  | ok fl =>
    cases fl with
    | next => exact False.elim hq
    | brk => exact False.elim hq
    | cont => exact False.elim hq
    | ret u =>
      obtain ⟨v, H', I', rv, it, ev, hn, hsz, eH⟩ := I.after hq
      subst ev eH
      cases rv
      have hit : s'.heap.IsTupleIter it t 0 := (I'.hok it _ upd_same).1
      have I2 : Inv X pins σ H s' := untrack I' hn
      rw [hBs] at hsz
      have tn : ∀ b, (upd H it (TiO t it)) b = none → it ≠ b := fun b e z => by
        rw [← z, upd_same] at e
        cases e
      have fp : FpOk X pins H it := ⟨hn, tn _ I'.free, I.nofs hsz, .inr (Nat.le_trans I.sz hsz), fun x c e z => tn _ (I'.freeC x c e) z.symm, fun p hp z => tn _ (I'.pin p hp).2.1 z.symm⟩
      unfold PySem.W.OwitIt
      refine wpAny_specialOf (T := "tuple_iterator") (by
        obtain ⟨o, ho, hc, _⟩ := hit
        exact ⟨o, ho, hc⟩) slot_tupleiter_next.lookup ?_
      exact h it s' I2 hit fp
theorem pi_ownT {tg e : Expr} {te : TE} (he : PE X e te) (M : ItM X.K C f) (F : ∀ base, FnOk X.prog X.w X.K X.mg base CX0 k f fd ps (spItT base R)) (hr : Room k X.A) (hb : Binds X.K fd ps []) : PI X tg e (iTup X.K (tKeeps C R te)) := by
  refine ⟨fun pins s σ H Rr I h => ?_⟩
  refine thn (he.run pins s σ H _ I h) fun v s1 ⟨x, H1, I1, r1, a, dx, t, fs, ex, ha, hR, t', et, hsq, q⟩ => ?_
  subst ex
  obtain rfl : v = Value.ref a := r1
  cases et
  refine own_iter ⟨hr, rfl⟩ M F hb I1 ha hR fun it s' I2 hit fp => ?_
  refine ⟨it, [it], _, _, H1, rfl, I2, turn_tuple t it, hit, fun b hb => ?_, q⟩
  have e : b = it := by simpa using hb
  rw [e]
  exact fp
end
end FsI

set_option Elab.async false
set_option linter.all false
set_option maxRecDepth 100000
set_option maxHeartbeats 4000000
/-! list(o): o of an own class with __iter__ (over a tuple that it keeps) and __len__. -/
namespace FsI
open PySem PySem.Spec PyProof.Rows L2 Evl ClX FsR
section
variable {X : Cx} {k : Nat} {C f g : Addr} {fd gd : FuncData} {ps psl : List Str} {R : Hp → Addr → Addr → Prop} {pins : List (Addr × Obj)} {σ : L2.St} {H : Hp} {s : Shared}
/-- what __len__ promises, of the same relation -/
def spLnT (R : Hp → Addr → Addr → Prop) (K : PySem.W.Frag) : Sp := fun vs H Q _ => ∃ (a t : Addr) (xs : List V), vs = [.ref a] ∧ R H a t ∧ SqT K H t xs ∧ ∀ H', Ex H H' → Q (.int (xs.length : Int)) H'
theorem own_hintT {A : Around} {a t dx : Addr} {fs : List (Str × V)} {xs : List V} {Q : Bool → Shared → Prop} (sb : Sub X (k + 1) A) (M : LenM X.K C g) (F : FnOk X.prog X.w X.K X.mg X.base CX0 k g gd psl (spLnT R X.K)) (hb : Binds X.K gd psl [])
    (I : Inv X pins σ H s) (ha : H a = some (.ins C dx fs)) (hR : R H a t) (ht : SqT X.K H t xs) (hz : xs.length ≤ 100000) (h : ∀ b H' s', Inv X pins σ H' s' → Ex H H' → Q b s') : wpAny (model X.prog X.w) A (Builtin.List.listLengthHint (.ref a)) Q X.xe s := by
  obtain ⟨mA, J, _⟩ := ins_get I.hok ha
  obtain ⟨od, J, _⟩ := J.look
  obtain ⟨m, hF⟩ := I.fr
  have e0 : Env0 X.prog X.w X.K X.mg X.base A.in1 X.stack s H := by
    have e := I.env0
    exact ⟨by rw [(sb.in1 (n := k)).fr]; exact e.frames, e.mod, e.bs, e.bsz, e.funs, e.frf, e.hok, e.bare⟩
  have sp : spLnT R X.K [.ref a] H (fun v H' => v = .int (xs.length : Int) ∧ Ex H H') (fun _ _ _ => False) := ⟨a, t, xs, rfl, hR, ht, fun H' e => ⟨rfl, e⟩⟩
  have hl := F.len _ _ _ _ sp
  have bnd := hb s [.ref a] I.kIn (by rw [List.append_nil]; exact hl)
  rw [List.append_nil] at bnd
  unfold Builtin.List.listLengthHint
  refine wpAny_bind (wpAny_bind (J.type.here ((PySem.W.looks_findIn I.kIn M.at_).here ?_)))
  refine PySem.W.KFB.if_not rfl ?_
  show wpAny _ _ (if true = true then _ else _) _ _ _
  rw [if_pos rfl]
  refine wpAny_bind (wpAny_rule ?_)
  refine wpAny_bind (wpAny_attempt (PySem.W.len_K hF I.ok.mod.kin J M.at_ M.fn ?_))
  refine wpAny_call (codeAny_mono (F.run A.in1 X.stack s H ⟨[.ref a], []⟩ [.ref a] [.ref a] _ (fun _ _ _ => False) (sb.in1 (n := k)).room e0 bnd (.cons rfl .nil) sp) fun r s' hq => ?_)
  cases r with
  | error e => exact (hq : False).elim
  | ok fl =>
    cases fl with
    | next => exact False.elim hq
    | brk => exact False.elim hq
    | cont => exact False.elim hq
    | ret u =>
      obtain ⟨v, H', I', rv, ev, he⟩ := I.after hq
      subst ev
      obtain ⟨tk, rfl⟩ := rv
      refine ⟨⟨by omega, by omega⟩, ?_⟩
      show wpAny _ _ (if Builtin.List.listTooLong (Int.toNat (xs.length : Int)) = true then _ else pure (((xs.length : Int)) != 0)) _ _ _
      have hsz : Builtin.List.listTooLong (Int.toNat (xs.length : Int)) = false := by
        unfold Builtin.List.listTooLong
        rw [Int.toNat_natCast]
        have := sz_of hz
        simp only [decide_eq_false_iff_not, Nat.not_lt, gt_iff_lt]
        exact this
      rw [hsz, if_neg Bool.false_ne_true]
      exact wpAny_pure (h _ H' _ (I'.tok _) he)
/-- the turns: the tuple's items go behind the list at q -/
theorem tup_loop {A1 : Around} {q it t : Addr} {Rs : Result → Shared → Prop} {zs : List V} (hh : A1.in1.handled = none) (hdone : ∀ H' s', Inv X pins σ H' s' → (∀ b o, b ≠ q → H b = some o → H' b = some o) → H' q = some (.lst zs) → Rs (.ok (.ret .none)) s') (hqt : q ≠ t) (ht : SqT X.K H t zs) (hz : zs.length ≤ 100000) :
    ∀ (r j : Nat) (H1 : Hp) (s1 : Shared), j + r = zs.length → Inv X pins σ H1 s1 → (∀ b o, b ≠ q → H b = some o → H1 b = some o) → H1 q = some (.lst (zs.take j)) → s1.heap.IsTupleIter it t j → FpOk X pins H1 it → codeAny (model X.prog X.w) A1 (.builtin "list.extend.loop" ⟨[.ref q, .ref it, .none], []⟩) Rs s1 := by
  intro r
  induction r with
  | zero =>
    intro j H1 s1 hj I1 hk hq hit fp
    have ht1 : SqT X.K H1 t zs := ht.imp (fun z => z.imp (fun y => hk t _ hqt.symm y) fun ⟨o, y⟩ => ⟨o, hk t _ hqt.symm y⟩) id
    obtain ⟨its, rv, pl, hz'⟩ := I1.tuple ht1
    obtain ⟨f0, f1, f2, f3, f4, f5⟩ := fp
    have hl := rv.length
    refine codeAny_builtin PySem.F.entry_extend_loop ?_
    rw [Around.under_plainId PySem.F.plain_extend_loop _]
    show wpAny _ A1.in1 (pyNext (.ref it) >>= _) _ _ s1
    refine wpAny_bind (wpAny_pyNext_tuple_end hh hit (show s1.heap.IsTuple t its.toArray from pl) (by simp; omega) fun h' eb => ?_)
    refine wpAny_pure (hdone H1 _ (I1.turned (t' := s1.toks) (fun b o hb e => eb b o hb e) f0 f1 f3 f4 f5) hk ?_)
    rw [hq, List.take_of_length_le (by omega)]
  | succ r ih =>
    intro j H1 s1 hj I1 hk hq hit fp
    have ht1 : SqT X.K H1 t zs := ht.imp (fun z => z.imp (fun y => hk t _ hqt.symm y) fun ⟨o, y⟩ => ⟨o, hk t _ hqt.symm y⟩) id
    obtain ⟨its, rv, pl, hz'⟩ := I1.tuple ht1
    obtain ⟨f0, f1, f2, f3, f4, f5⟩ := id fp
    have hjl : j < zs.length := by omega
    have hx : zs[j]? = some zs[j] := List.getElem?_eq_getElem hjl
    obtain ⟨u, hu, ru⟩ := rv.get hx
    refine codeAny_builtin PySem.F.entry_extend_loop ?_
    rw [Around.under_plainId PySem.F.plain_extend_loop _]
    show wpAny _ A1.in1 (pyNext (.ref it) >>= _) _ _ s1
    refine wpAny_bind (wpAny_pyNext_tuple_item hit (show s1.heap.IsTuple t its.toArray from pl) (x := u) (by simpa using hu) fun h' st' sb => ?_)
    have I2 : Inv X pins σ H1 { s1 with heap := h' } := I1.turned (t' := s1.toks) (fun b o hb e => (sb.2 b hb).trans e) f0 f1 f3 f4 f5
    show wpAny _ A1.in1 (updateSeq q (·.push u) >>= _) _ _ _
    obtain ⟨z, its2, k2, r2, hl2, e2⟩ := I2.lstM hq
    have hl3 := r2.length
    rw [List.length_take] at hl3
    have h4 := sz_lt (n := its2.length) (by omega)
    refine wpAny_bind (wpAny_updateSeq e2 rfl (wpAny_pure ⟨plainId_quiet PySem.F.plain_extend_loop _, ?_⟩) (by rw [List.size_toArray]; omega) (by show (its2.toArray.push u).size ≤ sizeLine + 1; rw [Array.size_push, List.size_toArray]; omega))
    have hne : it ≠ q := fun z => by rw [← z, f0] at hq; cases hq
    have I3 := I2.lset (f := (·.push u)) (its' := its2 ++ [u]) (ys := zs.take j ++ [zs[j]]) (t' := s1.toks) hq e2 (by simp) (r2.append (.cons ru .nil)) (by rw [List.length_append, List.length_singleton, List.length_take]; exact sz_of (by omega))
    refine ih (j + 1) (upd H1 q (.lst (zs.take j ++ [zs[j]]))) _ (by omega) I3 (fun b o hb e => by rw [upd_ne hb]; exact hk b o hb e) (by rw [upd_same, List.take_add_one, hx]; rfl) (st'.at fun o e => ?_) ⟨by rw [upd_ne hne]; exact f0, f1, f2, f3, f4, f5⟩
    exact (Heap.get?_update_other h' (Obj.mapSeq (·.push u)) hne.symm).trans e
theorem own_extT {A1 : Around} {a t dx q : Addr} {fs : List (Str × V)} {xs : List V} {Rs : Result → Shared → Prop} (sb : Sub X (k + 1) A1.in1) (hh : A1.in1.handled = none) (M : ItM X.K C f) (F : ∀ base, FnOk X.prog X.w X.K X.mg base CX0 k f fd ps (spItT base R)) (hb : Binds X.K fd ps [])
    (ML : LenM X.K C g) (FL : FnOk X.prog X.w X.K X.mg X.base CX0 k g gd psl (spLnT R X.K)) (hbl : Binds X.K gd psl [])
    (I : Inv X pins σ H s) (ha : H a = some (.ins C dx fs)) (hR : R H a t) (ht : H t = some (.tup xs)) (hz : xs.length ≤ 100000) (hq : H q = some (.lst []))
    (hdone : ∀ H' s', Inv X pins σ H' s' → (∀ b o, b ≠ q → H b = some o → H' b = some o) → H' q = some (.lst xs) → Rs (.ok (.ret .none)) s') (herr : ∀ e s, X.xe e s → Rs (.error e) s) :
    wpAny (model X.prog X.w) A1.in1 (Builtin.List.listExtendWith (.ref q) (.ref a) .none)
      (fun fin s' => match fin with | .done f => Rs (.ok f) s' | .again c' => c'.quiet = true ∧ codeAny (model X.prog X.w) A1 c' Rs s') (fun e s' => Rs (.error e) s') s := by
  have hne : q ≠ a := ne_of hq ha (fun z => nomatch z)
  have hqt : q ≠ t := ne_of hq ht (fun z => nomatch z)
  obtain ⟨mA, J, _⟩ := ins_get I.hok ha
  obtain ⟨od, J, _⟩ := J.look
  obtain ⟨m0, hF⟩ := I.fr
  unfold Builtin.List.listExtendWith
  refine wpAny_bind (J.type.here ?_)
  have h1 : Builtin.List.listSameRef (.ref q) (.ref a) = false := by simp [Builtin.List.listSameRef, hne]
  have h2 : (Value.ref C == Value.type "list") = false := rfl
  have h3 : (Value.ref C == Value.type "tuple") = false := rfl
  simp only [h1, h2, h3, Bool.or_false, Bool.false_eq_true, if_false]
  refine wpAny_bind (wpAny_mono (own_iter (Q := fun v s2 => ∃ it, v = .ref it ∧ Inv X pins σ H s2 ∧ s2.heap.IsTupleIter it t 0 ∧ FpOk X pins H it) ⟨sb.room.mono (Nat.le_succ k), sb.fr⟩ M F hb I ha hR fun it s2 I2 hit fp => ⟨it, rfl, I2, hit, fp⟩) (fun v s2 hv => ?_) fun e s' he => herr e s' he)
  obtain ⟨it, rfl, I2, hit, fp⟩ := hv
  obtain ⟨f0, f1, f2, f3, f4, f5⟩ := id fp
  obtain ⟨oi, hoi, hci, hdi⟩ := id hit
  have I3 : Inv X ((it, oi) :: pins) σ H s2 := I2.pins_of fun p hp => by
    rcases List.mem_cons.mp hp with hp | hp
    · rw [hp]
      exact ⟨hoi, f0, f1, f2, fun v z => by
        have z' : oi.data = .cell v := z
        rw [hdi] at z'
        cases z'⟩
    · exact I2.pin p (List.mem_append_right _ hp)
  refine wpAny_bind (wpAny_holding (wpAny_mono (own_hintT (Q := fun b s3 => ∃ H3, Inv X ((it, oi) :: pins) σ H3 s3 ∧ Ex H H3) sb ML FL hbl I3 ha hR (st_of ht) hz fun b H3 s3 i3 e3 => ⟨H3, i3, e3⟩) (fun b s3 hb3 => ?_) fun e s' he => herr e s' he))
  obtain ⟨H3, I4, e3⟩ := hb3
  have fin : ∀ s4, Inv X ((it, oi) :: pins) σ H3 s4 → codeAny (model X.prog X.w) A1 (.builtin "list.extend.loop" ⟨[.ref q, .ref it, .none], []⟩) Rs s4 := fun s4 I5 => by
    obtain ⟨p1, p2, _⟩ := I5.pin (it, oi) (List.mem_append_right _ List.mem_cons_self)
    have I6 : Inv X pins σ H3 s4 := I5.pins_of fun p hp => I5.pin p (List.mem_append_right _ (List.mem_cons_of_mem _ hp))
    refine tup_loop (H := H) hh (fun H' s' i' k' q' => hdone H' s' i' k' q') hqt (st_of ht) hz xs.length 0 H3 s4 (Nat.zero_add _) I6 (fun b o _ e => e3 b o e) (by rw [e3 _ _ hq]; rfl) ⟨oi, p1, hci, hdi⟩ ⟨p2, f1, f2, f3, f4, f5⟩
  have hq3 := e3 _ _ hq
  obtain ⟨z, its, kk, r3, hl3, e4⟩ := I4.lstM hq3
  cases r3
  refine wpAny_ite_split (fun _ => ?_) (fun _ => wpAny_pure ⟨plainId_quiet PySem.F.plain_extend_loop _, fin s3 I4⟩)
  refine wpAny_bind (wpAny_rule ?_)
  refine wpAny_bind ?_
  show wpAny _ _ (updateSeq q (·.push .none) >>= fun _ => updateSeq q (·.pop)) _ _ _
  refine wpAny_bind (wpAny_updateSeq e4 rfl ?_)
  have I5 := I4.lset (f := (·.push Value.none)) (its' := [Value.none]) (ys := [.non]) (t' := s3.toks) hq3 e4 (by simp) (.cons rfl .nil) (by rw [List.length_singleton, sizeLine_eq]; decide)
  obtain ⟨z4, its4, k4, r4, hl4, e5⟩ := I5.lstM upd_same
  obtain ⟨u4, rfl, ru4⟩ := r4.one
  refine wpAny_updateSeq e5 rfl ?_ (by show 1 ≤ sizeLine; rw [sizeLine_eq]; decide) (by show 0 ≤ sizeLine + 1; exact Nat.zero_le _)
  refine wpAny_pure ⟨plainId_quiet PySem.F.plain_extend_loop _, fin _ ?_⟩
  have I6 := I5.lset (f := (·.pop)) (its := [u4]) (its' := []) (ys := []) (t' := s3.toks) upd_same e5 (by rfl) .nil (Nat.zero_le _)
  rw [upd_upd] at I6
  have hH : upd H3 q (.lst []) = H3 := by
    funext b
    by_cases hb : b = q
    · rw [hb, upd_same, hq3]
    · rw [upd_ne hb]
  rw [hH] at I6
  exact I6
/-- list(o) -/
def rListO (C : Addr) (R : Hp → Addr → Addr → Prop) : List V → Hp → VK → Prop := fun zs H Q => ∃ (a dx t : Addr) (fs : List (Str × V)) (xs : List V), zs = [.ref a] ∧ H a = some (.ins C dx fs) ∧ R H a t ∧ H t = some (.tup xs) ∧ xs.length ≤ 100000 ∧ (∀ H1, Ex H H1 → R H1 a t) ∧ ∀ l H', H l = none → Ex H H' → H' l = some (.lst xs) → Q (.ref l) H'
theorem call_listO (M : ItM X.K C f) (F : ∀ base, FnOk X.prog X.w X.K X.mg base CX0 k f fd ps (spItT base R)) (hb : Binds X.K fd ps []) (ML : LenM X.K C g) (FL : FnOk X.prog X.w X.K X.mg X.base CX0 k g gd psl (spLnT R X.K)) (hbl : Binds X.K gd psl []) (hr : Room (k + 3) X.A) (hc : X.calm = true) : CallR X (.type "list") (rListO C R) := by
  intro pins s σ H zs us Q I rv h
  obtain ⟨a, dx, t, fs, xs, rfl, ha, hR, ht, hz, hRx, hq⟩ := h
  obtain ⟨u, rfl, ru⟩ := rv.one
  cases ru
  have sb : Sub X (k + 1) X.A.in1.in1 := (Sub.in1 (Sub.in1 (⟨hr, rfl⟩ : Sub X (k + 3) X.A)))
  refine callType_codes (Q₁ := fun obj s₁ => obj = .ref s.heap.objs.size ∧ s₁ = { s with heap := s.heap.push { cls := .type "list", data := .seq #[] } }) PySem.F.called_list (PySem.F.typeCall_list_1 _) PySem.F.entry_list_init
    (code_list_new _ ⟨rfl, rfl⟩) fun obj s₁ h₁ => ?_
  obtain ⟨rfl, rfl⟩ := h₁
  have hS : (s.heap.push { cls := .type "list", data := .seq #[] }).get? s.heap.objs.size = some { cls := .type "list", data := .seq #[] } := Heap.get?_push_size _ rfl
  refine ⟨⟨_, hS, rfl⟩, PySem.F.args_list_init_2 _ _, ?_⟩
  have fr : H s.heap.objs.size = none := I.hok.fresh (Nat.le_refl _)
  have I1 : Inv X pins σ (upd H s.heap.objs.size (.lst [])) { s with heap := s.heap.push { cls := .type "list", data := .seq #[] } } := I.lnew (its := []) (t' := s.toks) .nil (Nat.zero_le _)
  show wpAny _ _ (do let old ← Builtin.List.listItems (.ref s.heap.objs.size); Builtin.List.listUpdate (.ref s.heap.objs.size) (fun _ => #[]); letGo old.toList.reverse; Builtin.List.listExtendWith (.ref s.heap.objs.size) (.ref a) .none) _ _ _
  refine wpAny_bind ?_
  unfold Builtin.List.listItems
  refine wpAny_bind (wpAny_seqItems hS rfl (wpAny_pure ?_))
  show wpAny _ _ (updateSeq s.heap.objs.size (fun _ => #[]) >>= fun _ => letGo (#[] : Array Value).toList.reverse >>= fun _ => Builtin.List.listExtendWith (.ref s.heap.objs.size) (.ref a) .none) _ _ _
  refine wpAny_bind (wpAny_updateSeq hS rfl ?_)
  have I2 := I1.lset (f := fun _ => #[]) (its := []) (its' := []) (ys := []) (t' := s.toks) upd_same hS rfl .nil (Nat.zero_le _)
  rw [upd_upd] at I2
  refine wpAny_bind (wpAny_letGo ?_)
  have ex : Ex H (upd H s.heap.objs.size (.lst [])) := Ex.new fr
  refine own_extT (A1 := X.A.in1) (Rs := wants (fun r s₂ => r = .none ∧ EP X pins σ Q (.ref s.heap.objs.size) s₂) X.xe) sb (I.ok.hd hc) M F hb ML FL hbl I2 (ex _ _ ha) (hRx _ ex) (ex _ _ ht) hz upd_same (fun H' s' I' k' q' => ⟨rfl, .ref s.heap.objs.size, H', I', rfl, hq _ H' fr (fun b o e => k' b o (fun z => by rw [z, fr] at e; cases e) (ex _ _ e)) q'⟩) (fun e s' he => he)
end
end FsI

set_option Elab.async false
set_option linter.all false
set_option maxRecDepth 100000
set_option maxHeartbeats 4000000
/-! for k in o: o of an own class whose __iter__ hands out the iterator of a dict that it keeps, the dict locked. -/
namespace FsI
open PySem PySem.Spec PyProof.Rows L2 Evl ClX
/-- at it the iterator of the dict at d, at its start -/
def DiO (d it n ep : Addr) : HO := .ext fun h => h.IsKeyIter it d 0 n ep
theorem diO_ok {P : Program} {w : World} {H : Hp} {h : Heap} {d it n ep : Nat} (e : h.IsKeyIter it d 0 n ep) : ObjOk P w H h it (DiO d it n ep) :=
  ⟨e, let ⟨o, ho, _⟩ := e; ⟨o, ho⟩, fun _ _ st k => st.at k⟩
section
variable {prog : Program} {w : World} {A : Around} {E : Value → Shared → Prop} {s : Shared}
theorem call_iter_dict {d : Addr} {o : Obj} {es : Array DictEntry} {ep : Nat} {Q : Value → Shared → Prop} (hs : (d == sysModules) = false) (ho : s.heap.get? d = some o) (hc : o.ExactDict) (hdat : o.data = .dict es ep)
    (h : Q (.ref s.heap.objs.size) { s with heap := s.heap.push { cls := .type "dict_keyiterator", data := .fields #[.ref d, .int 0 0, .int es.size 0, .int ep 0] } }) :
    wpAny (model prog w) A (call (.builtin "iter") [.ref d]) Q E s := by
  refine Calls.call_function_entry (by decide +kernel) (by decide +kernel) PySem.W.kdk_entry_iter (PySem.W.kdk_args_iter _) ?_
  unfold Builtin.«iter»
  refine wpAny_bind (m := someArgs "iter" 1 2 _) (wpAny_of_eq (a := [Value.ref d]) (by first | rfl | kernel_rfl!) ?_)
  show wpAny _ _ (pyIter (.ref d) >>= _) _ _ _
  refine wpAny_bind (iter_keys hs ho hc hdat ?_)
  exact wpAny_pure ⟨_, rfl, h⟩
end
/-- iter(a locked dict) -/
def rIterD (base : Heap) : List V → Hp → VK → Prop := fun xs H Q => ∃ (d : Addr) (o : Obj) (kvs : List (Key × V)), xs = [.ref d] ∧ H d = some (.frz o (.dK kvs)) ∧ ∀ it es ep, o.data = .dict es ep → H it = none → base.objs.size ≤ it → Q (.ref it) (upd H it (DiO d it kvs.length ep))
theorem call_iterD {X : Cx} : CallR X (.builtin "iter") (rIterD X.base) := by
  intro pins s σ H xs us Q I r h
  obtain ⟨d, o, kvs, rfl, hd, q⟩ := h
  obtain rfl := Vals.ref1 r
  obtain ⟨hs, hgd, hx, es, ep, vs, hdt, hsz, kv, hm⟩ := I.frzK hd
  refine call_iter_dict hs hgd hx hdt ?_
  rw [hsz]
  exact ⟨.ref s.heap.objs.size, _, I.laid (t' := s.toks) (fun b u e => Heap.get?_push_of_some _ e) (Nat.le_refl _) (diO_ok ⟨_, Heap.get?_push_size _ rfl, rfl, rfl⟩), rfl, q _ es ep hdt (I.hok.fresh (Nat.le_refl _)) (Nat.le_trans I.ok.bsz I.sz)⟩
/-- what __iter__ promises: R a d: the instance at a keeps the dict at d -/
def spItD (base : Heap) (R : Hp → Addr → Addr → Prop) : Sp := fun vs H Q _ => ∃ (a d : Addr) (o : Obj) (kvs : List (Key × V)), vs = [.ref a] ∧ R H a d ∧ H d = some (.frz o (.dK kvs)) ∧ ∀ it es ep, o.data = .dict es ep → H it = none → base.objs.size ≤ it → Q (.ref it) (upd H it (DiO d it kvs.length ep))
/-- the dict that the instance keeps -/
def tKeepsD (C : Addr) (R : Hp → Addr → Addr → Prop) (te : TE) : TI := fun σ H Q => te σ H fun x H1 => ∃ (a dx d : Addr) (o : Obj) (fs : List (Str × V)) (kvs : List (Key × V)), x = .ref a ∧ H1 a = some (.ins C dx fs) ∧ R H1 a d ∧ H1 d = some (.frz o (.dK kvs)) ∧ Q (Itk d o kvs) H1
section
variable {X : Cx} {k : Nat} {C f : Addr} {fd : FuncData} {ps : List Str} {R : Hp → Addr → Addr → Prop}
theorem own_iterD {pins : List (Addr × Obj)} {σ : L2.St} {H : Hp} {s : Shared} {a d dx : Addr} {o : Obj} {kvs : List (Key × V)} {es : Array DictEntry} {ep : Nat} {fs : List (Str × V)} {A : Around} {Q : Value → Shared → Prop} (sb : Sub X k A) (M : ItM X.K C f) (F : ∀ base, FnOk X.prog X.w X.K X.mg base CX0 k f fd ps (spItD base R)) (hb : Binds X.K fd ps [])
    (I : Inv X pins σ H s) (ha : H a = some (.ins C dx fs)) (hR : R H a d) (hd : H d = some (.frz o (.dK kvs))) (hdt : o.data = .dict es ep) (h : ∀ it s', Inv X pins σ H s' → s'.heap.IsKeyIter it d 0 kvs.length ep → FpOk X pins H it → Q (.ref it) s') : wpAny (model X.prog X.w) A (pyIter (.ref a)) Q X.xe s := by
  obtain ⟨mA, J, _⟩ := ins_get I.hok ha
  obtain ⟨od, J, _⟩ := J.look
  obtain ⟨m, hF⟩ := I.fr
  refine PySem.W.owit_iter hF I.ok.mod.kin J M.at_ M.fn ?_
  have e0 : Env0 X.prog X.w X.K X.mg X.base A X.stack s H := by
    have e := I.env0
    exact ⟨by rw [sb.fr]; exact e.frames, e.mod, e.bs, e.bsz, e.funs, e.frf, e.hok, e.bare⟩
  obtain ⟨B, hBs, e1⟩ := env_now e0
  have sp : spItD B R [.ref a] H (fun v H' => ∃ it, v = .ref it ∧ H it = none ∧ B.objs.size ≤ it ∧ H' = upd H it (DiO d it kvs.length ep)) (fun _ _ _ => False) := ⟨a, d, o, kvs, rfl, hR, hd, fun it es' ep' h0 h1 h2 => ⟨it, rfl, h1, h2, by
    rw [hdt] at h0
    cases h0
    rfl⟩⟩
  have hl := (F B).len _ _ _ _ sp
  have bnd := hb s [.ref a] I.kIn (by rw [List.append_nil]; exact hl)
  rw [List.append_nil] at bnd
  refine wpAny_call (codeAny_mono ((F B).run A X.stack s H ⟨[.ref a], []⟩ [.ref a] [.ref a] _ (fun _ _ _ => False) sb.room e1 bnd (.cons rfl .nil) sp) fun r s' hq => ?_)
  cases r with
  | error e => exact (hq : False).elim
  | ok fl =>
    cases fl with
    | next => exact False.elim hq
    | brk => exact False.elim hq
    | cont => exact False.elim hq
    | ret u =>
      obtain ⟨v, H', I', rv, it, ev, hn, hsz, eH⟩ := I.after hq
      subst ev eH
      cases rv
      have hit : s'.heap.IsKeyIter it d 0 kvs.length ep := (I'.hok it _ upd_same).1
      have I2 : Inv X pins σ H s' := untrack I' hn
      rw [hBs] at hsz
      have tn : ∀ b, (upd H it (DiO d it kvs.length ep)) b = none → it ≠ b := fun b e z => by
        rw [← z, upd_same] at e
        cases e
      have fp : FpOk X pins H it := ⟨hn, tn _ I'.free, I.nofs hsz, .inr (Nat.le_trans I.sz hsz), fun x c e z => tn _ (I'.freeC x c e) z.symm, fun p hp z => tn _ (I'.pin p hp).2.1 z.symm⟩
      unfold PySem.W.OwitIt
      refine wpAny_specialOf (T := "dict_keyiterator") (by
        obtain ⟨o, ho, hc, _⟩ := hit
        exact ⟨o, ho, hc⟩) PySem.F.slot_dict_keyiterator_next.lookup ?_
      exact h it s' I2 hit fp
theorem pi_ownD {tg e : Expr} {te : TE} (he : PE X e te) (M : ItM X.K C f) (F : ∀ base, FnOk X.prog X.w X.K X.mg base CX0 k f fd ps (spItD base R)) (hr : Room k X.A) (hb : Binds X.K fd ps []) : PI X tg e (tKeepsD C R te) := by
  refine ⟨fun pins s σ H Rr I h => ?_⟩
  refine thn (he.run pins s σ H _ I h) fun v s1 ⟨x, H1, I1, r1, a, dx, d, o, fs, kvs, ex, ha, hR, hd, q⟩ => ?_
  subst ex
  obtain rfl : v = Value.ref a := r1
  obtain ⟨hs, hgd, hx, es, ep, vs, hdt, hsz, kv, hm⟩ := I1.frzK hd
  refine own_iterD ⟨hr, rfl⟩ M F hb I1 ha hR hd hdt fun it s' I2 hit fp => ?_
  refine ⟨it, [it], _, _, H1, rfl, I2, turn_keys it hdt, hit, fun b hb => ?_, q⟩
  have e : b = it := by simpa using hb
  rw [e]
  exact fp
end
end FsI

set_option Elab.async false
set_option linter.all false
set_option maxRecDepth 100000
set_option maxHeartbeats 8000000
/-! nets of what is allowed: made, walked, listed -/
namespace Fs
open PySem L2 Evl FsE FsC FsR FsA FsD FsU FsK FsI
/-- the net at a keeps the tuple at t -/
def NtV (N : Addr) (H : Hp) (a t : Addr) : Prop := ∃ dx, H a = some (.ins N dx [("members", .ref t)])
theorem NtV.ex {N : Addr} {H H' : Hp} (e : Ex H H') {a t : Addr} (h : NtV N H a t) : NtV N H' a t := by
  obtain ⟨dx, h⟩ := h
  exact ⟨dx, e _ _ h⟩
theorem nm_lookup {t : Addr} : List.lookup ("members" : Str) [("members", V.ref t)] = some (.ref t) := by
  rw [List.lookup_cons, show (("members" : Str) == "members") = true from by decide +kernel]
def PvAt (C : Addr) (H : Hp) (v : V) (p : Pr) : Prop := ∃ a, v = .ref a ∧ PrAt C H a p
theorem PvAt.ex {C : Addr} {H H' : Hp} (e : Ex H H') {v : V} {p : Pr} (h : PvAt C H v p) : PvAt C H' v p := by
  obtain ⟨a, h1, h2⟩ := h
  exact ⟨a, h1, h2.ex e⟩
/-- a net of processes -/
def NtQ (N C : Addr) (H : Hp) (a : Addr) (ps : List Pr) : Prop := ∃ t xs, NtV N H a t ∧ H t = some (.tup xs) ∧ LsA (PvAt C) H xs ps
theorem NtQ.ex {N C : Addr} {H H' : Hp} (e : Ex H H') {a : Addr} {ps : List Pr} (h : NtQ N C H a ps) : NtQ N C H' a ps := by
  obtain ⟨t, xs, h1, h2, h3⟩ := h
  exact ⟨t, xs, h1.ex e, e _ _ h2, h3.imp fun _ _ z => z.ex e⟩
structure NtT (K : PySem.W.Frag) (mg : Str → Option Value) (N : Addr) : Prop where
  cl : Cls K N
  nM : NoAttr K N "members"
  mgN : mg "Net" = some (.ref N)
  len : mg "len" = none
  tuple : mg "tuple" = none
  iter : mg "iter" = none
  list : mg "list" = none
  most : GC mg "MOST_MACHINES" (.int 6)
section
variable {P : Program} {w : World} {K : PySem.W.Frag} {mg : Str → Option Value} {base : Heap} {C CB CK CN CD CW N : Addr}
/-- Net(..), of what is allowed -/
def spNt0 (K : PySem.W.Frag) (N : Addr) : Sp := fun vs H Q _ => ∃ (a dx l : Addr) (xs : List V) (H0 : Hp), vs = [.ref a, .ref l] ∧ H a = some (.ins N dx []) ∧ H0 a = none ∧ Ex H0 H ∧ SqA K H0 l xs ∧ xs.length ≤ 6 ∧ ∀ H' t, Ex H0 H' → NtV N H' a t → H' t = some (.tup xs) → Q .non H'
theorem scNt0 : FnScope ["self", "processes"] ["self", "processes"] (defScope (inClass (topS 40) 0)) := ⟨rfl, rfl, rfl, by decide +kernel, rfl, by decide +kernel, by decide +kernel⟩
theorem ev_lenQ {σ : L2.St} {H : Hp} {ta : TE} {l : Addr} {xs : List V} (h : Ev ta σ H (.ref l)) (hl : SqA K H l xs) : Ev (tCB (fun xs H Q => ∃ p ys, xs = [V.ref p] ∧ (SqL K H p ys ∨ SqT K H p ys) ∧ Q (.int ys.length) H) (tCons ta tNil)) σ H (.int (xs.length : Int)) := fun H1 e Q q =>
  h H1 e _ fun H2 e2 => ⟨l, xs, rfl, (hl.ex (e.trans e2)).elim .inl fun z => .inr (st_of z), q H2 e2⟩
theorem ok_nt0 {f : Addr} {fd : FuncData} {k : Nat} (F : Fun K "__init__" "Net.__init__" (inClass (topS 40) 0) f fd) (T : NtT K mg N) (GD : CalX P w K mg base (L2.CX P w) k "demand" (spDemand CB)) : FnOk P w K mg base CX0 (k + 1) f fd ["self", "processes"] (spNt0 K N) := by
  refine F.ok scNt0 (fun vs H Q E h => ?_) (fun cdv A outer s H vs Q E hr h => ?_)
  · obtain ⟨a, dx, l, xs, H0, rfl, _⟩ := h
    rfl
  · obtain ⟨a, dx, l, xs, H0, rfl, ha, hna, e0, hl, hz, q1⟩ := h
    refine ⟨_, pss_cons (ps_expr (pe_cx (E := fun _ => E0) GD hr (Nat.le_refl _) (by rfl) (fun σ => passesAt_of passL σ) (pa_cons (pe_cmpR op_le (pe_callB call_len_seq (by rfl) T.len PySem.boot_len (pa_cons (pv 1) pa_nil)) (C8.pe_gc (by rfl) T.most) (nomark _)) (pa_cons pe_str pa_nil))))
      (pss_one (ps_fld (pv 0) (pe_callTy call_tuple_of (by rfl) T.tuple (by decide +kernel) (pa_cons (pv 1) pa_nil)) rfl)), ?_⟩
    refine q_drop (v := .non) (ev_cx (ea_cons (ev_op (x := .int (xs.length : Int)) (ev_lenQ (K := K) (ev_var rfl) (hl.ex e0)) ev_c rv_I0) (ea_cons ev_c ea_nil)) (fun H1 e1 Q' q' E' => ⟨_, "machines", rfl, by decide +kernel, fun _ => q', fun hb => ?_⟩)) (fun H1 e1 => ?_)
    · have := of_decide_eq_false hb
      omega
    · refine s_fldQ (xs := xs) (eq_tup (ev_var rfl) ((hl.ex e0).ex e1)) (fun H2 e2 => ev_var rfl) (e1 _ _ ha) T.cl T.nM (by show 0 < 1000; decide) (fun t H2 ht e2 h2 => ?_)
      exact q1 _ t (Ex.mut ((e0.trans e1).trans e2) hna) ⟨dx, upd_same⟩ (by rw [upd_ne ht]; exact h2)
/-- len(net) -/
theorem scNtLn : FnScope ["self"] ["self"] (defScope (inClass (topS 40) 1)) := ⟨rfl, rfl, rfl, by decide +kernel, rfl, by decide +kernel, by decide +kernel⟩
theorem ok_ntln {f : Addr} {fd : FuncData} (F : Fun K "__len__" "Net.__len__" (inClass (topS 40) 1) f fd) (T : NtT K mg N) : FnOk P w K mg base CX0 1 f fd ["self"] (spLnT (NtV N) K) := by
  refine F.ok scNtLn (fun vs H Q E h => ?_) (fun cdv A outer s H vs Q E hr h => ?_)
  · obtain ⟨a, t, xs, rfl, _⟩ := h
    rfl
  · obtain ⟨a, t, xs, rfl, ⟨dx, h1⟩, h2, q⟩ := h
    refine ⟨_, pss_one (ps_ret (pe_callB call_len_seq (by rfl) T.len PySem.boot_len (pa_cons (pe_fld (pv 0) rfl) pa_nil))), ?_⟩
    exact s_ret (v := .int (xs.length : Int)) (ev_lenT (ev_fld (ev_var rfl) h1 T.cl T.nM nm_lookup) h2) q
/-- iter(net) -/
theorem scNtIt : FnScope ["self"] ["self"] (defScope (inClass (topS 40) 2)) := ⟨rfl, rfl, rfl, by decide +kernel, rfl, by decide +kernel, by decide +kernel⟩
theorem ok_ntit {f : Addr} {fd : FuncData} (F : Fun K "__iter__" "Net.__iter__" (inClass (topS 40) 2) f fd) (T : NtT K mg N) (base : Heap) : FnOk P w K mg base CX0 1 f fd ["self"] (spItT base (fun H a t => NtV N H a t ∧ ∃ xs, H t = some (.tup xs))) := by
  refine F.ok scNtIt (fun vs H Q E h => ?_) (fun cdv A outer s H vs Q E hr h => ?_)
  · obtain ⟨a, t, rfl, _⟩ := h
    rfl
  · obtain ⟨a, t, rfl, ⟨⟨dx, h1⟩, xs, h2⟩, q⟩ := h
    refine ⟨_, pss_one (ps_ret (pe_callB call_iterT (by rfl) T.iter (by decide +kernel) (pa_cons (pe_fld (pv 0) rfl) pa_nil))), ?_⟩
    exact ⟨_, rfl, a, N, dx, _, .ref t, rfl, h1, T.cl, T.nM, nm_lookup, ⟨t, xs, rfl, st_of h2, fun it hn hb => q it hn hb⟩⟩
/-- len(book) -/
theorem scBkIt : FnScope ["self"] ["self"] (defScope (inClass (topS 26) 5)) := ⟨rfl, rfl, rfl, by decide +kernel, rfl, by decide +kernel, by decide +kernel⟩
/-- the book at a keeps the dict at d -/
def BkV (CK : Addr) (H : Hp) (a d : Addr) : Prop := ∃ dx, H a = some (.ins CK dx [("by_name", .ref d)])
theorem ok_bkit {f : Addr} {fd : FuncData} (F : Fun K "__iter__" "Book.__iter__" (inClass (topS 26) 5) f fd) (T : BkT K mg CK CB) (hi : mg "iter" = none) (base : Heap) : FnOk P w K mg base CX0 1 f fd ["self"] (spItD base (BkV CK)) := by
  refine F.ok scBkIt (fun vs H Q E h => ?_) (fun cdv A outer s H vs Q E hr h => ?_)
  · obtain ⟨a, d, o, kvs, rfl, _⟩ := h
    rfl
  · obtain ⟨a, d, o, kvs, rfl, ⟨dx, h1⟩, h2, q⟩ := h
    refine ⟨_, pss_one (ps_ret (pe_callB call_iterD (by rfl) hi (by decide +kernel) (pa_cons (pe_fld (pv 0) rfl) pa_nil))), ?_⟩
    exact ⟨_, rfl, a, CK, dx, _, .ref d, rfl, h1, T.cl, T.nB, bk_lookup, ⟨d, o, kvs, rfl, h2, fun it es ep h0 hn hb => q it es ep h0 hn hb⟩⟩
end
end Fs

set_option Elab.async false
set_option linter.all false
set_option maxRecDepth 100000
set_option maxHeartbeats 16000000
/-! programs: all names checked -/
namespace Fs
open PySem L2 Evl FsE FsC FsR FsA FsD FsU FsK StX FsI
def NtR (N : Addr) (H : Hp) (a t : Addr) : Prop := NtV N H a t ∧ ∃ xs, H t = some (.tup xs)
def fDf (cn : List Str) (ds : Ds) (z : Str) : Option Flt := match lkD ds z with
  | none => none
  | some d => fPr ds (cn ++ d.1) d.2
/-- what is due for the names of a program -/
def NmOut (cn : List Str) (ds : Ds) (ps : List Pr) (o : Option Flt) : Prop := ∃ ys : List Str, ys.Perm (ds.map (·.1)) ∧ PyProof.Rows.sortedS ys = true ∧ o = orF (fstF (ys.map (fDf cn ds))) (fstF (ps.map (fPr ds cn)))
theorem fstF_at {α : Type} {f : α → Option Flt} {xs : List α} {i : Nat} {x : α} (hi : xs[i]? = some x) (h0 : fstF ((xs.take i).map f) = none) : fstF (xs.map f) = orF (f x) (fstF ((xs.drop (i + 1)).map f)) ∧ fstF ((xs.take (i + 1)).map f) = f x := by
  obtain ⟨h1, h2⟩ := List.getElem?_eq_some_iff.mp hi
  have hl2 : xs = xs.take i ++ x :: xs.drop (i + 1) := by
    conv => lhs; rw [← List.take_append_drop i xs, List.drop_eq_getElem_cons h1, h2]
  refine ⟨?_, ?_⟩
  · have hl3 : xs.map f = (xs.take i).map f ++ f x :: (xs.drop (i + 1)).map f := by
      conv => lhs; rw [hl2, List.map_append, List.map_cons]
    rw [hl3, fstF_app, h0]
    rfl
  · rw [List.take_add_one, hi, List.map_append, fstF_app, h0]
    show orF none (orF _ none) = _
    rw [orF_none]
    rfl
theorem bkn_nomet {d : Addr} : List.lookup ("names" : Str) [(("by_name" : Str), V.ref d)] = none := by
  rw [List.lookup_cons, show (("names" : Str) == "by_name") = false from by decide +kernel]
  rfl
theorem lkD_of {z : Str} : ∀ {ds : Ds}, z ∈ ds.map (·.1) → ∃ d, lkD ds z = some d
  | [], h => nomatch h
  | x :: ds, h => by
    unfold lkD
    rw [List.lookup_cons]
    by_cases hz : z = x.1
    · rw [show (z == x.1) = true from beq_iff_eq.mpr hz]
      exact ⟨_, rfl⟩
    · rw [show (z == x.1) = false from beq_eq_false_iff_ne.mpr hz]
      rcases List.mem_cons.mp h with h | h
      · exact absurd h hz
      · exact lkD_of h
section
variable {P : Program} {w : World} {K : PySem.W.Frag} {mg : Str → Option Value} {base : Heap} {C CB CK CN CD CW N : Addr}
theorem s_call3E {σ : L2.St} {H : Hp} {t1 tl : TE} {D : Ends} {sp : Sp} {F : L2.St → XK} {x z : V} {xs : List V} {j : Nat} (h1 : Ev t1 σ H x) (h : EvL tl σ H xs) (s2 : σ[j]? = some (some z)) (k : ∀ l H1, Ex H H1 → H1 l = some (.lst xs) → sp [x, .ref l, z] H1 (fun _ H2 => D.nx σ H2) (F σ)) : tDrop (tCallS sp F (tCons t1 (tCons tl (tCons (tVar j) tNil)))) D σ H :=
  h1 H (Ex.refl H) _ fun H1 e1 => h H1 e1 _ fun l H2 _ e2 h2 => ⟨z, s2, k l H2 (e1.trans e2) h2⟩
/-- for name in book.names() -/
theorem q_forNames {σ : L2.St} {H : Hp} {D : Ends} {tz tu : TS} {b i j : Nat} {ds : Ds} (s1 : σ[i]? = some (some (.ref b))) (bk : BkP CK CD C H b ds) (Pv : List Str → Addr → Nat → L2.St → Hp → Prop) (h0 : ∀ ys p H1, ys.Perm (ds.map (·.1)) → PyProof.Rows.sortedS ys = true → H p = none → Ex H H1 → H1 p = some (.lst (ys.map V.str)) → Pv ys p 0 σ H1)
    (hl : ∀ ys p i σ' H', Pv ys p i σ' H' → H' p = some (.lst (ys.map V.str)))
    (hs : ∀ (ys : List Str) p n z σ' H', ys.Perm (ds.map (·.1)) → PyProof.Rows.sortedS ys = true → ys[n]? = some z → Pv ys p n σ' H' → tu { D with nx := Pv ys p (n + 1), ct := Pv ys p (n + 1), bk := tz D } (σ'.set j (some (.str z))) H')
    (hd : ∀ ys p σ' H', ys.Perm (ds.map (·.1)) → PyProof.Rows.sortedS ys = true → Pv ys p ys.length σ' H' → tz D σ' H') :
    tSeq (tFor (iList K (tMeth CK "names" (spBkNames CK) [] E0 (tVar i) tNil)) (gName j) tu) tz D σ H := by
  obtain ⟨kvs, bk1, tb⟩ := id bk
  obtain ⟨dx, d, h1, h2⟩ := id bk1
  have hl2 := tb.len
  refine ⟨_, s1, b, dx, _, rfl, h1, bkn_nomet, b, kvs, ds.map (·.1), rfl, bk1, by rw [tb.keys, List.map_map]; rfl, by rw [List.length_map]; omega, fun ys hp hs9 p H2 hn e2 h2' => ?_⟩
  have key : tSeq (tFor (iList K (tC (.ref p))) (gName j) tu) tz D σ H2 := q_forLn (K := K) (xs := ys.map V.str) ev_c (sq_of h2') (Pv ys p) (fun H3 e3 => h0 ys p H3 hp hs9 hn (e2.trans e3) (e3 _ _ h2')) (fun n σ' H' _ h => sq_of (hl ys p n σ' H' h)) (fun n x σ' H' hx h => by
    rw [List.getElem?_map] at hx
    cases hz : ys[n]? with
    | none =>
      rw [hz] at hx
      cases hx
    | some z =>
      rw [hz] at hx
      cases hx
      exact hs ys p n z σ' H' hp hs9 hz h) (fun σ' H' h => hd ys p σ' H' hp hs9 (by rw [List.length_map] at h; exact h))
  exact key
/-- check_names -/
def spChkN (CK CD C N CN CW : Addr) : Sp := fun vs H Q E => ∃ (l b n : Addr) (cn : List Str) (ds : Ds) (ps : List Pr), vs = [.ref l, .ref b, .ref n] ∧ H l = some (.lst (cn.map V.str)) ∧ cn.length ≤ 100 ∧ BkP CK CD C H b ds ∧ NtQ N C H n ps ∧ (∀ p ∈ ps, p.depth ≤ 20 ∧ p.sh) ∧ ∀ o, NmOut cn ds ps o → FOut CN CW o H Q E
abbrev nsChkN : List Str := ["channel_names", "book", "net", "name", "definition", "process"]
theorem scChkN : FnScope nsChkN ["channel_names", "book", "net"] (defScope (topS 49)) := ⟨rfl, rfl, rfl, by decide +kernel, rfl, by decide +kernel, by decide +kernel⟩
theorem ok_chkN {f fn fg fi : Addr} {fd fdn gd di : FuncData} {k kg : Nat} (hk : 2 ≤ k) (hkg : kg + 1 ≤ k) (F : Fun K "check_names" "check_names" (topS 49) f fd) (TB : BkT K mg CK CB) (TD : DfT K mg CD) (MN : Meth K CK "names" fn) (FN : FnOk P w K mg base CX0 1 fn fdn ["self"] (spBkNames CK)) (BN : Binds K fdn ["self"] [])
    (IX : IxM K CK fg) (FG : FnOk P w K mg base (L2.CX P w) kg fg gd ["self", "at"] (spBkGet CK CN)) (BG : Binds K gd ["self", "at"] []) (MI : ItM K N fi) (FI : ∀ base, FnOk P w K mg base CX0 1 fi di ["self"] (spItT base (NtR N))) (BI : Binds K di ["self"] []) (GP : CalX P w K mg base (L2.CX P w) k "check_process" (spChkP CK CD C CN CW 20)) :
    FnOk P w K mg base (L2.CX P w) (k + 1) f fd ["channel_names", "book", "net"] (spChkN CK CD C N CN CW) := by
  refine F.okX scChkN (fun vs H Q E h => ?_) (fun cdv A outer s H vs Q E hr h => ?_)
  · obtain ⟨l, b, n, cn, ds, ps, rfl, _⟩ := h
    rfl
  · obtain ⟨l, b, n, cn, ds, ps, rfl, hl, hcn, bk, ⟨t, xs, hv, ht, hxs⟩, hps, q⟩ := h
    refine ⟨_, pss_cons (ps_for (passes_of rfl) rfl (pi_list (pe_meth0 (E := E0) (pv 1) TB.cl MN FN (hr.mono (by omega)) BN .nil pass0)) (pg_name (i := 3) scChkN.nd rfl (Or.inl rfl))
        (pss_cons (ps_set (i := 4) scChkN.nd rfl (Or.inl rfl) (pe_ixO (E := WE (fun cls d _ H => E cls d H)) (pv 1) (pv 3) IX FG (hr.mono hkg) BG (fun σ => passAt (takes_of rfl rfl rfl rfl) σ)))
        (pss_one (ps_expr (pe_cx (E := WE (fun cls d _ H => E cls d H)) GP hr (Nat.le_refl _) (by rfl) (fun σ => passAt (takes_of rfl rfl rfl rfl) σ) (pa_cons (pe_fld (pv 4) rfl) (pa_cons (pe_lst (pa_star (pv 0) (pa_star (pe_fld (pv 4) rfl) pa_nil))) (pa_cons (pv 1) pa_nil))))))))
      (pss_one (ps_for (passes_of rfl) rfl (pi_ownT (C := N) (R := NtR N) (pv 2) MI FI (hr.mono (by omega)) BI) (pg_name (i := 5) scChkN.nd rfl (Or.inl rfl))
        (pss_one (ps_expr (pe_cx (E := WE (fun cls d _ H => E cls d H)) GP hr (Nat.le_refl _) (by rfl) (fun σ => passAt (takes_of rfl rfl rfl rfl) σ) (pa_cons (pv 5) (pa_cons (pv 0) (pa_cons (pv 1) pa_nil)))))))), ?_⟩
    refine q_forNames (σ := [some (.ref l), some (.ref b), some (.ref n), none, none, none]) (H := H) (i := 1) (ds := ds) rfl bk (fun ys p i σ' H' => ∃ v3 v4 : Option V, σ' = [some (.ref l), some (.ref b), some (.ref n), v3, v4, none] ∧ Ex H H' ∧ H' p = some (.lst (ys.map V.str)) ∧ fstF ((ys.take i).map (fDf cn ds)) = none)
      (fun ys p H1 _ _ _ e1 h1 => ⟨_, _, rfl, e1, h1, rfl⟩) (fun ys p i σ' H' ⟨_, _, _, _, h, _⟩ => h) (fun ys p i z σ' H' hp hs hz ⟨v3, v4, hσ, e, hpl, h0⟩ => ?_) (fun ys p σ' H' hp hs ⟨v3, v4, hσ, e, hpl, h0⟩ => ?_)
    · subst hσ
      have hzm : z ∈ ds.map (·.1) := hp.subset (List.mem_of_getElem? hz)
      obtain ⟨d, hd⟩ := lkD_of hzm
      obtain ⟨dps, dpr⟩ := d
      have hdm := lkD_mem hd
      obtain ⟨kvs, bk1, tb⟩ := id bk
      obtain ⟨m1, m2, m3, m4⟩ := tb.sm _ hdm
      obtain ⟨g1, g2⟩ := fstF_at (f := fDf cn ds) hz h0
      have qn := q _ ⟨ys, hp, hs, rfl⟩
      rw [g1, orF_assoc] at qn
      have efd : fDf cn ds z = fPr ds (cn ++ dps) dpr := by unfold fDf; rw [hd]
      refine q_asgS (Pv := fun v H' => ∃ a b, v = .ref a ∧ DfAt CD H' a dps b ∧ PrAt C H' b dpr) (ev_bkixP (CD := CD) (C := C) (ds := ds) (ev_var rfl) (ev_var rfl) (bk.ex e) (by exact m1) hd) (fun v H1 e1 ⟨a, pb, hv2, ⟨dx, tp, y1, y2⟩, y3⟩ => ?_)
      subst hv2
      have x1 := e.trans e1
      refine s_call3E (x := .ref pb) (ev_fld (K := K) (ev_var rfl) y1 TD.cl TD.nB df_body) (el_lst (ea_star (xs := cn.map V.str) (K := K) (ev_var rfl) (fun H4 e4 => .inr (sq_of ((x1.trans e4) _ _ hl))) (ea_star (xs := dps.map V.str) (K := K) (ev_fld (ev_var rfl) y1 TD.cl TD.nP df_params) (fun H4 e4 => .inl (st_of (e4 _ _ y2))) ea_nil)) (by rw [List.append_nil, List.length_append, List.length_map, List.length_map]; have m2' : dps.length ≤ 100 := m2; omega)) rfl (fun l2 H3 e3 h3 => ?_)
      have x3 := x1.trans e3
      have m2' : dps.length ≤ 100 := m2
      have m3' : dpr.depth ≤ 20 := m3
      refine ⟨pb, l2, b, dpr, cn ++ dps, ds, rfl, y3.ex e3, m3', m4, by rw [h3, List.append_nil, List.map_append], by rw [List.length_append]; omega, bk.ex x3, ?_⟩
      rw [← efd]
      exact (qn.seq.ex x3).imp fun H4 e4 z4 _ => ⟨_, _, rfl, x3.trans e4, (e1.trans (e3.trans e4)) _ _ hpl, by rw [g2]; exact z4⟩
    · subst hσ
      rw [List.take_length] at h0
      have qn := q _ ⟨ys, hp, hs, rfl⟩
      rw [h0] at qn
      have qn : FOut CN CW (fstF (ps.map (fPr ds cn))) H Q E := qn
      have kp : Ev (tKeeps N (NtR N) (tVar 2)) [some (.ref l), some (.ref b), some (.ref n), v3, v4, none] H' (.ref t) := fun H1 e1 Q1 q1 => by
        obtain ⟨dx, h1⟩ := hv
        exact ⟨_, rfl, n, dx, t, _, rfl, (e.trans e1) _ _ h1, ⟨⟨dx, (e.trans e1) _ _ h1⟩, xs, (e.trans e1) _ _ ht⟩, q1 H1 (Ex.refl H1)⟩
      refine s_forTn (K := K) (xs := xs) kp (st_of (e _ _ ht)) (fun i σ' H' => ∃ v5 : Option V, σ' = [some (.ref l), some (.ref b), some (.ref n), v3, v4, v5] ∧ Ex H H' ∧ fstF ((ps.take i).map (fPr ds cn)) = none) (fun H1 e1 => ⟨_, rfl, e.trans e1, rfl⟩) (fun i σ' H' _ ⟨_, _, e, _⟩ => st_of (e _ _ ht)) (fun i x σ' H' hx ⟨v5, hσ, e, h0⟩ => ?_) (fun σ' H' ⟨v5, hσ, e, h0⟩ => ?_)
      · subst hσ
        obtain ⟨pr, hpr, a, rfl, ha⟩ := hxs.get hx
        obtain ⟨m3, m4⟩ := hps pr (List.mem_of_getElem? hpr)
        obtain ⟨g1, g2⟩ := fstF_at (f := fPr ds cn) hpr h0
        rw [g1] at qn
        exact s_callV rfl rfl rfl ⟨a, l, b, pr, cn, ds, rfl, ha.ex e, m3, m4, e _ _ hl, by omega, bk.ex e, (qn.seq.ex e).imp fun H4 e4 z4 _ => ⟨_, rfl, e.trans e4, by rw [g2]; exact z4⟩⟩
      · subst hσ
        have hlen := hxs.length
        rw [hlen, List.take_length] at h0
        exact qn.1 h0 H' e
end
end Fs

set_option Elab.async false
set_option linter.all false
set_option maxRecDepth 100000
set_option maxHeartbeats 4000000
/-! what instances of some classes and tuples are stays -/
namespace Fs
open PySem L2 Evl FsE FsC FsR
structure ExC (C : Addr) (H H' : Hp) : Prop where
  ins : ∀ a dx fs, H a = some (.ins C dx fs) → H' a = some (.ins C dx fs)
  tup : ∀ a xs, H a = some (.tup xs) → H' a = some (.tup xs)
theorem ExC.of {C : Addr} {H H' : Hp} (e : Ex H H') : ExC C H H' := ⟨fun _ _ _ h => e _ _ h, fun _ _ h => e _ _ h⟩
theorem ExC.trans {C : Addr} {H H1 H2 : Hp} (e : ExC C H H1) (f : ExC C H1 H2) : ExC C H H2 := ⟨fun a dx fs h => f.ins _ _ _ (e.ins _ _ _ h), fun a xs h => f.tup _ _ (e.tup _ _ h)⟩
theorem ExC.updL {C l : Addr} {H : Hp} {xs : List V} {o : HO} (h : H l = some (.lst xs)) : ExC C H (upd H l o) := ⟨fun a dx fs ha => by
    rw [upd_ne (fun z => by rw [z, h] at ha; cases ha)]
    exact ha, fun a ys ha => by
    rw [upd_ne (fun z => by rw [z, h] at ha; cases ha)]
    exact ha⟩
mutual
theorem PrAt.keepC {C : Addr} {H H' : Hp} (e : ExC C H H') : ∀ {p : Pr} {a : Addr}, PrAt C H a p → PrAt C H' a p
  | .choice os, a, h => by
    unfold PrAt at h ⊢
    obtain ⟨t, ps, ⟨dx, h1⟩, h2, h3⟩ := h
    exact ⟨t, ps, ⟨dx, e.ins _ _ _ h1⟩, e.tup _ _ h2, OfsAt.keepC e h3⟩
  | .new n k r, a, h => by
    unfold PrAt at h ⊢
    obtain ⟨t, b, ⟨dx, h1⟩, h2, h3⟩ := h
    exact ⟨t, b, ⟨dx, e.ins _ _ _ h1⟩, e.tup _ _ h2, PrAt.keepC e h3⟩
  | .cond l r y n, a, h => by
    unfold PrAt at h ⊢
    obtain ⟨t, b, c, ⟨dx, h1⟩, h2, h3, h4⟩ := h
    exact ⟨t, b, c, ⟨dx, e.ins _ _ _ h1⟩, e.tup _ _ h2, PrAt.keepC e h3, PrAt.keepC e h4⟩
  | .call n ops, a, h => by
    unfold PrAt at h ⊢
    obtain ⟨t, u, ⟨dx, h1⟩, h2, h3⟩ := h
    exact ⟨t, u, ⟨dx, e.ins _ _ _ h1⟩, e.tup _ _ h2, e.tup _ _ h3⟩
theorem OfsAt.keepC {C : Addr} {H H' : Hp} (e : ExC C H H') : ∀ {os : Ofs} {ps : List V}, OfsAt C H ps os → OfsAt C H' ps os
  | .nil, ps, h => by
    unfold OfsAt at h ⊢
    exact h
  | .cons c s m op ns r os, ps, h => by
    unfold OfsAt at h ⊢
    obtain ⟨o, u, b, qs, h1, h2, h3, h4, h5⟩ := h
    exact ⟨o, u, b, qs, h1, e.tup _ _ h2, e.tup _ _ h3, PrAt.keepC e h4, OfsAt.keepC e h5⟩
end
end Fs

set_option Elab.async false
set_option linter.all false
set_option maxRecDepth 100000
set_option maxHeartbeats 2000000
/-! list(range(n)). -/
namespace FsR
open PySem PySem.Spec PyProof.Rows L2 Evl
def nums (n : Nat) : List V := (List.range n).map fun (i : Nat) => V.int (i : Int)
def tListR (ta : TA) : TE := fun σ H Q => ta σ H fun vs H1 => ∃ n : Int, vs = [.int n] ∧ 0 ≤ n ∧ n ≤ 100000 ∧ ∀ p, H1 p = none → Q (.ref p) (upd H1 p (.lst (nums n.toNat)))
theorem nums_vals : ∀ {n : Nat} {acc : List Value}, acc.length = n → (∀ (j : Nat) (v : Value), acc[j]? = some v → ∃ t, v = Value.int (j : Int) t) → Vals (nums n) acc := by
  intro n
  induction n with
  | zero =>
    intro acc h _
    cases acc with
    | nil => exact Paired.nil
    | cons a b => cases h
  | succ n ih =>
    intro acc h hv
    obtain ⟨as, a, rfl⟩ : ∃ as a, acc = as ++ [a] := by
      rcases List.eq_nil_or_concat acc with e | ⟨as, a, e⟩
      · rw [e] at h; cases h
      · exact ⟨as, a, by rw [e, List.concat_eq_append]⟩
    have hl : as.length = n := by
      rw [List.length_append] at h
      exact Nat.succ.inj h
    have e1 : nums (n + 1) = nums n ++ [.int (n : Int)] := by
      unfold nums
      rw [List.range_succ, List.map_append]
      rfl
    rw [e1]
    refine Vals.append (ih hl fun j v hj => hv j v ?_) (.cons ?_ Paired.nil)
    · rw [List.getElem?_append_left (List.getElem?_eq_some_iff.mp hj).1]
      exact hj
    · obtain ⟨t, ht⟩ := hv n a (by rw [List.getElem?_append_right (by omega), hl, Nat.sub_self]; rfl)
      exact ⟨t, ht⟩
theorem pe_listR {X : Cx} {e : Expr} {ta : TA} {p1 p2 pos cpos : Pos} (hc : X.calm = true) (he : PA X [e] ta) (hg : Gl X "list") (hm : X.mg "list" = none) (hv : bootBuiltins "list" = some (.type "list")) (hg2 : Gl X "range") (hm2 : X.mg "range" = none)
    (hs : starEach [.Call (.Name "range" p2) [e] [] cpos] X.env = (false, eval (.Call (.Name "range" p2) [e] [] cpos) X.env) :: starEach [] X.env := by rfl) (hs2 : starEach [e] X.env = [(false, eval e X.env)] := by rfl) :
    PE X (.Call (.Name "list" p1) [.Call (.Name "range" p2) [e] [] cpos] [] pos) (tListR ta) := by
  refine ⟨fun pins s σ H Q I h => ?_⟩
  refine wpAny_Call_Name_kw (ld_blt I hg hm hv ?_)
  refine PyProof.Rows.callWith_type1 ?_ hs rfl
  rw [hs]
  show wpAny _ _ (spliced ((false, eval (.Call (.Name "range" p2) [e] [] cpos) X.env) :: backTo pos (starEach [] X.env))) _ _ s
  refine Calls.spliced_cons ?_
  refine Call_ (ld_blt I hg2 hm2 boot_range (PyProof.Rows.callWith_type1 (thn (he.run cpos pins s σ H _ I h) fun us s1 ⟨vs, H1, I1, r1, n, e1, z0, z1, q⟩ => ?_) hs2 rfl))
  subst e1
  cases r1 with
  | cons r rr =>
    cases rr
    obtain ⟨t, rfl⟩ := r
    refine call_range_1 ?_
    have I2 : Inv X pins σ H1 { s1 with heap := s1.heap.push { cls := .type "range", data := .fields #[.int 0 s1.toks, .int n t, .int 1 (s1.toks + 1)] }, toks := s1.toks + 1 + 1 } := I1.kept fun b o e => Heap.get?_push_of_some _ e
    refine Calls.spliced_nil ?_
    obtain ⟨m, rfl⟩ : ∃ m : Nat, n = (m : Int) := ⟨n.toNat, by omega⟩
    refine call_list_range (n := m) (I2.ok.hd hc) (IsRange.new ..) (small_one (by decide) (by decide) (by omega) (by omega)) (by rw [rangeSize_one]; split <;> omega) (by omega) (fun h' tk acc c' kp e ⟨hz, hi⟩ => ?_)
    have hv : Vals (nums m) acc.toList := nums_vals (by rw [Array.length_toList]; exact hz) fun j v hj => by
      rw [Array.getElem?_toList] at hj
      obtain ⟨t, ht⟩ := hi j v hj
      exact ⟨t, by rw [ht]; simp⟩
    have hzl : (nums m).length ≤ sizeLine := by
      unfold nums
      rw [List.length_map, List.length_range]
      exact sz_of (by omega)
    refine ⟨.ref _, _, I2.laid (t' := tk) kp (Nat.le_refl _) (show ObjOk X.prog X.w _ h' _ (.lst (nums m)) from ⟨hzl, acc.toList, c', hv, by rw [Array.toArray_toList]; exact e⟩), rfl, q _ (I2.hok.fresh (Nat.le_refl _))⟩
theorem el_listR {σ : L2.St} {H : Hp} {ta : TA} {n : Nat} (h : EvA ta σ H [.int (n : Int)]) (hn : n ≤ 100000) : EvL (tListR ta) σ H (nums n) := fun H1 e Q q => h H1 e _ fun H2 e2 => ⟨(n : Int), rfl, by omega, by omega, fun p hp => q p _ (fresh_back e2 hp) (e2.trans (Ex.new hp)) upd_same⟩
/-- xs + ys, both lists -/
theorem el_cat {σ : L2.St} {H : Hp} {ta tb : TE} {xs ys : List V} (ha : EvL ta σ H xs) (hb : EvL tb σ H ys) (hz : xs.length + ys.length ≤ 100000) : EvL (tOp rCat ta tb) σ H (xs ++ ys) := fun H1 e Q q =>
  ha H1 e _ fun p H2 hp e2 h2 => hb H2 (e.trans e2) _ fun r H3 hr e3 h3 => ⟨p, r, xs, ys, rfl, rfl, e3 _ _ h2, h3, sz_of (by omega), fun u hu => q u _ (fresh_back (e2.trans e3) hu) ((e2.trans e3).trans (Ex.new hu)) upd_same⟩
end FsR

set_option Elab.async false
set_option linter.all false
set_option maxRecDepth 100000
set_option maxHeartbeats 2000000
/-! name = [e for k in d if ..], the dict locked meanwhile; reads of a dict that may be locked -/
namespace FsE
open PySem L2 Evl
section
variable {K : PySem.W.Frag} {σ : L2.St} {H : Hp} {ta tb tc te : TE} {x y z : V} {D : Ends}
theorem el_lcK {d : Addr} {o : Obj} {kvs : List (Key × V)} {tl : TE} {j : Nat} {vs : List Nat} {t : TT} (f : Nat → Bool) (v : Nat → V) (h : Ev tl σ H (.ref d)) (hx : H d = some (.frz o (.dK kvs))) (hz : kvs.length ≤ 40000) (hw : ∀ x, wipe ((wipe σ vs).set j (some x)) vs = wipe σ vs)
    (ht : ∀ (i : Nat) (k : Key) (u : V) H1, Ex H H1 → kvs[i]? = some (k, u) → EvT t ((wipe σ vs).set j (some (kV k))) H1 (f i)) (he : ∀ (i : Nat) (k : Key) (u : V) H1, Ex H H1 → kvs[i]? = some (k, u) → f i = true → Ev te ((wipe σ vs).set j (some (kV k))) H1 (v i)) :
    EvL (tLc (iKeys tl) (gName j) t te vs) σ H (given kvs.length f v) := fun H0 e Q q => h H0 e _ fun H1 e1 => ⟨d, o, rfl, .inl ⟨kvs, (e.trans e1) _ _ hx, fun Dl hD =>
  lc_it walk_keys (Cw H1 f v Dl) ⟨hD, Ex.new hD, upd_same⟩ (fun _ _ _ p => ((e.trans e1).trans p.2.1) _ _ hx) (fun i x H' H2 hi p y => by
    obtain ⟨rfl, k, u, hk, rfl⟩ := y
    exact ⟨hw _, cw_turn p (by omega) (ht i k u H1 (e.trans e1) hk) (fun hf => he i k u H1 (e.trans e1) hk hf)⟩)
    (fun H' p => q Dl H' (fresh_back e1 p.1) (e1.trans p.2.1) p.2.2)⟩⟩
theorem s_lockLc {d : Addr} {kvs : List (Key × V)} {xs : List V} {i : Nat} (hd : H d = some (.dK kvs)) (h : ∀ od, EvL te σ (upd H d (.frz od (.dK kvs))) xs)
    (k : ∀ p H2, H p = none → Ex H H2 → H2 p = some (.lst xs) → D.nx (σ.set i (some (.ref p))) H2) : tLock (tAsg te (gName i)) D σ H :=
  ⟨d, .dK kvs, hd, trivial, fun od => h od _ (Ex.refl _) _ fun p H2 hp e2 h2 => by
    have hpd : p ≠ d := fun z => by
      rw [z, upd_same] at hp
      cases hp
    rw [upd_ne hpd] at hp
    refine ⟨e2 _ _ upd_same, k p _ hp (fun c o hc => ?_) (by rw [upd_ne hpd]; exact h2)⟩
    by_cases z : c = d
    · rw [z] at hc ⊢
      rw [upd_same, ← hd, hc]
    · rw [upd_ne z]
      exact e2 _ _ (by rw [upd_ne z]; exact hc)⟩
theorem given_filter (g : Str → Bool) (ns : List Str) : given ns.length (fun i => g (ns.getD i "")) (fun i => V.str (ns.getD i "")) = (ns.filter g).map V.str := by
  have e : (List.range ns.length).map (fun i => ns.getD i "") = ns := by
    refine List.ext_getElem? fun i => ?_
    rw [List.getElem?_map]
    by_cases hi : i < ns.length
    · rw [List.getElem?_range hi, List.getElem?_eq_getElem hi]
      show some (ns.getD i "") = some ns[i]
      rw [List.getD_eq_getElem?_getD, List.getElem?_eq_getElem hi]
      rfl
    · rw [List.getElem?_eq_none (by rw [List.length_range]; omega), List.getElem?_eq_none (by omega)]
      rfl
  have e2 : (ns.filter g).map V.str = (((List.range ns.length).map (fun i => ns.getD i "")).filter g).map V.str := by rw [e]
  rw [e2, List.filter_map, List.map_map]
  rfl
/-- a dict that may be locked -/
theorem ev_dinR {d : Addr} {kvs : List (Key × V)} {key : Key} (hk : Ev tb σ H (kV key)) (h : Ev ta σ H (.ref d)) (hd : ∀ H1, Ex H H1 → Rd H1 d (.dK kvs)) : Ev (tDIn tb ta) σ H (.bl (valV kvs key).isSome) := fun H1 e Q q =>
  hk H1 e _ fun H2 e2 => h H2 (e.trans e2) _ fun H3 e3 => ⟨d, _, rfl, .inl ⟨kvs, key, hd _ ((e.trans e2).trans e3), rfl, rfl⟩, q H3 (e2.trans e3)⟩
theorem ev_dgetR {d : Addr} {kvs : List (Key × V)} {key : Key} {v : V} (h : Ev ta σ H (.ref d)) (hk : Ev tb σ H (kV key)) (hd : ∀ H1, Ex H H1 → Rd H1 d (.dK kvs)) (hv : valV kvs key = some v) : Ev (tDGet ta tb) σ H v := fun H1 e Q q =>
  h H1 e _ fun H2 e2 => hk H2 (e.trans e2) _ fun H3 e3 => ⟨d, v, rfl, .inl ⟨kvs, key, hd _ ((e.trans e2).trans e3), rfl, hv.symm⟩, q H3 (e2.trans e3)⟩
theorem rd_ex {H H' : Hp} {d : Addr} {u : HO} (e : Ex H H') (h : Rd H d u) : Rd H' d u := h.imp (fun z => e _ _ z) fun ⟨o, z⟩ => ⟨o, e _ _ z⟩
end
end FsE

set_option Elab.async false
set_option linter.all false
set_option maxRecDepth 100000
set_option maxHeartbeats 2000000
/-! name = {k: v for ..} on one line. -/
namespace L2
open PySem PySem.Spec PyProof.Rows
theorem ps_setDc {X : Cx} {i : Nat} {y : Str} {py : Pos} {kx vx tg iter : Expr} {ifs : List Expr} {scope : Scope} {own : List (Str × Nat)} {pos spos : Pos} {wi : TI} {g : TG} {tt : TT} {tk tv : TE} (hc : X.calm = true) (hN : X.N.Nodup) (hy : X.N[i]? = some y) (hyl : X.env.scope.names.lookup y = some .local)
    (hsw : swapsWith (.DictComp kx vx [⟨tg, iter, ifs, 0⟩] scope pos) (some (.Name y py)) spos.line X.env = pure true) (hi : PI X tg iter wi) (ok : BlkOk X.N X.env.scope scope own)
    (hg : ∀ (s : Shared) (H : Hp) (C : Addr) (cl : List (Str × Addr)) (fp : List Addr), PG (X.blk s H scope (compEnvC scope cl C X.env) fp) tg g) (ht : ∀ (s : Shared) (H : Hp) (C : Addr) (cl : List (Str × Addr)) (fp : List Addr), PTs (X.blk s H scope (compEnvC scope cl C X.env) fp) ifs tt)
    (hk : ∀ (s : Shared) (H : Hp) (C : Addr) (cl : List (Str × Addr)) (fp : List Addr), PE (X.blk s H scope (compEnvC scope cl C X.env) fp) kx tk)
    (he : ∀ (s : Shared) (H : Hp) (C : Addr) (cl : List (Str × Addr)) (fp : List Addr), PE (X.blk s H scope (compEnvC scope cl C X.env) fp) vx tv) (hs : ∀ x, foldedSetIterable iter X.env x = pure x := by intro _; rfl) :
    PS X (.Assign [.Name y py] (.DictComp kx vx [⟨tg, iter, ifs, 0⟩] scope pos) spos) (tAsg (tDc wi g tt tk tv (own.map (·.2))) (gName i)) := by
  refine ⟨fun pins s σ H D I h => ?_⟩
  rw [exec_Assign_Name_used _ _ _ _ hsw]
  refine wpAny_bind (wpAny_standAt (wpAny_bind ?_))
  show wpAny _ X.A (do let _ ← comprehension (.DictComp kx vx [⟨tg, iter, ifs, 0⟩] scope pos) scope X.env (firstIterPos [⟨tg, iter, ifs, 0⟩] pos) newDict false (eval iter X.env) (some (assign (.Name y py) X.env))) _ _ s
  have h : tDc wi g tt tk tv (own.map (·.2)) σ H (fun x H1 => gName i x σ H1 D.nx) := h
  refine wpAny_bind (thn (dc_core (Qf := fun _ s' => SP X pins D .next s') hc hN I hi ok hg ht hk he hs h fun L C s' m H' I' q hn f => ?_) fun _ s' hq => wpAny_pure (wpAny_pure hq))
  show wpAny _ _ (assign (.Name y py) X.env (.ref L)) _ _ _
  refine wpAny_assign_Name (store_ok2 (v := V.ref L) I' hN hy (.inl hyl) rfl (fun s2 I2 ⟨a, sb, ha⟩ => ?_) (.inr hyl))
  obtain ⟨f0, f1, f2, f3, f4, f5⟩ := f
  have haC : C ≠ a := by
    rcases ha with z | z
    · rw [z]; exact f1
    · exact fun e => f4 y a z e.symm
  refine ⟨m, hn.sameBut sb haC, fun h3 sb3 => ?_⟩
  exact ⟨_, H', I2.turned (t' := s2.toks) (fun b o hb e => (sb3.2 b hb).trans e) f0 f1 f3 f4 f5, q⟩
theorem sw_trueD {kx vx : Expr} {gs : List Comprehension} {scope : Scope} {pos py : Pos} {y : Str} {l : Nat} {env : Env} (hk : env.scope.kind = .function) (hy : env.scope.names.lookup y = some .local) (hl : (py.line == pos.line) = true)
    (ha : (scope.names.any fun (n, k) => n == y && (k == .local || k == .cell)) = false) : swapsWith (.DictComp kx vx gs scope pos) (some (.Name y py)) l env = pure true := by
  have ky : env.kindOf y = some .local := hy
  have hb : env.blockKind = .function := by unfold Env.blockKind; rw [hk]; rfl
  unfold swapsWith
  simp only [hb, ky, ha, Expr.pos, hl]
  rfl
end L2

set_option Elab.async false
set_option linter.all false
set_option maxRecDepth 100000
set_option maxHeartbeats 16000000
/-! programs: direct calls, and where they lead -/
namespace Fs
open PySem L2 Evl FsE FsC FsR FsA FsD FsU FsK StX FsI
/-- the names called before a choice -/
def dcs : Pr → List Str
  | .choice _ => []
  | .new _ _ r => dcs r
  | .cond _ _ y n => dcs y ++ dcs n
  | .call z _ => [z]
mutual
theorem Pr.size_pos : ∀ p : Pr, 1 ≤ p.size
  | .choice os => by
    have := Ofs.sum_nn os
    rw [Pr.size]
    omega
  | .new n k r => by
    have := Pr.size_pos r
    rw [Pr.size]
    omega
  | .cond l r y n => by
    have := Pr.size_pos y
    have := Pr.size_pos n
    rw [Pr.size]
    omega
  | .call n ops => by
    rw [Pr.size]
    decide
theorem Ofs.sum_nn : ∀ os : Ofs, 0 ≤ os.sum
  | .nil => by
    rw [Ofs.sum]
    decide
  | .cons c s m op ns r os => by
    have := Pr.size_pos r
    have := Ofs.sum_nn os
    rw [Ofs.sum]
    omega
end
theorem dcs_len : ∀ p : Pr, ((dcs p).length : Int) ≤ p.size
  | .choice os => by
    show (0 : Int) ≤ _
    have := Pr.size_pos (.choice os)
    omega
  | .new _ _ r => by
    have := dcs_len r
    rw [Pr.size]
    show ((dcs r).length : Int) ≤ _
    omega
  | .cond _ _ y n => by
    have := dcs_len y
    have := dcs_len n
    rw [Pr.size]
    show (((dcs y ++ dcs n).length : Nat) : Int) ≤ _
    rw [List.length_append]
    omega
  | .call z _ => by
    rw [Pr.size]
    show (1 : Int) ≤ 1
    decide
/-- edges: names with the names that they lead to -/
abbrev Eds := List (Str × List Str)
def Ed (es : Eds) (x y : Str) : Prop := ∃ l, es.lookup x = some l ∧ y ∈ l
inductive Reach (es : Eds) (x : Str) : Str → Prop where
  | one {y : Str} : Ed es x y → Reach es x y
  | more {y z : Str} : Reach es x y → Ed es y z → Reach es x z
def edOf (ds : Ds) : Eds := ds.map fun d => (d.1, dcs d.2.2)
/-- a dict of lists of names -/
def ElAt (H : Hp) (v : V) (e : Str × List Str) : Prop := ∃ l, v = .ref l ∧ H l = some (.lst (e.2.map V.str))
structure CtAt (H : Hp) (cvs : List (Key × V)) (es : Eds) : Prop where
  keys : cvs.map (·.1) = es.map (fun e => Sum.inr e.1)
  vals : LsA ElAt H (cvs.map (·.2)) es
theorem CtAt.ex {H H' : Hp} {cvs : List (Key × V)} {es : Eds} (e : Ex H H') (h : CtAt H cvs es) : CtAt H' cvs es := ⟨h.keys, h.vals.imp fun _ _ ⟨l, h1, h2⟩ => ⟨l, h1, e _ _ h2⟩⟩
theorem ct_get {H : Hp} {z : Str} : ∀ {cvs : List (Key × V)} {es : Eds}, cvs.map (·.1) = es.map (fun e => Sum.inr e.1) → LsA ElAt H (cvs.map (·.2)) es → (∀ l, es.lookup z = some l → ∃ a, valV cvs (.inr z) = some (.ref a) ∧ H a = some (.lst (l.map V.str))) ∧ (es.lookup z = none → valV cvs (.inr z) = none)
  | [], [], _, _ => ⟨(fun d h => nomatch h), fun _ => rfl⟩
  | [], _ :: _, e, _ => by simp at e
  | _ :: _, [], e, _ => by simp at e
  | p :: cvs, d :: es, e, h => by
    injection e with e1 e2
    have e1 : p.1 = Sum.inr d.1 := e1
    obtain ⟨h1, h2⟩ := h
    have ih := ct_get (z := z) e2 h2
    rw [List.lookup_cons]
    by_cases hz : z = d.1
    · rw [show (z == d.1) = true from beq_iff_eq.mpr hz]
      refine ⟨fun d' hd' => ?_, fun hd' => nomatch hd'⟩
      obtain ⟨a, x1, x2⟩ := h1
      cases hd'
      refine ⟨a, ?_, x2⟩
      rw [valV_pos (by rw [e1, hz])]
      exact congrArg some x1
    · rw [show (z == d.1) = false from beq_eq_false_iff_ne.mpr hz]
      have hne : p.1 ≠ Sum.inr z := fun y => hz (by
        rw [e1] at y
        exact (Sum.inr.inj y).symm)
      rw [valV_neg hne]
      exact ih
theorem ct_snoc {H : Hp} {z : Str} {l : List Str} {v : V} {cvs : List (Key × V)} {es : Eds} (h : CtAt H cvs es) (hz : es.lookup z = none) (hv : ElAt H v (z, l)) : CtAt H (putK cvs (.inr z) v) (es ++ [(z, l)]) := by
  rw [putK_new v ((ct_get (z := z) h.keys h.vals).2 hz)]
  refine ⟨?_, ?_⟩
  · rw [List.map_append, List.map_append, h.keys]
    rfl
  · rw [List.map_append]
    exact h.vals.snoc hv
section
variable {P : Program} {w : World} {K : PySem.W.Frag} {mg : Str → Option Value} {base : Heap} {C CB CK CN CD CW N : Addr}
/-- direct_calls -/
def spDc (C : Addr) (d : Nat) : Sp := fun vs H Q _ => ∃ (a : Addr) (p : Pr), vs = [.ref a] ∧ PrAt C H a p ∧ p.depth ≤ (d : Int) ∧ p.size ≤ 400 ∧ RetL ((dcs p).map V.str) H Q
theorem scDc : FnScope ["process"] ["process"] (defScope (topS 54)) := ⟨rfl, rfl, rfl, by decide +kernel, rfl, by decide +kernel, by decide +kernel⟩
theorem ok_dc {f : Addr} {fd : FuncData} {k : Nat} (hk : 1 ≤ k) (F : Fun K "direct_calls" "direct_calls" (topS 54) f fd) (T : TerT K mg C CB) (hm : mg "direct_calls" = some (.ref f)) (kp : PySem.W.keepIn K (.ref f) = true) (hb : Binds K fd ["process"] []) : ∀ d : Nat, FnOk P w K mg base CX0 (k + d) f fd ["process"] (spDc C d)
  | 0 => by
    obtain ⟨k, rfl⟩ : ∃ m, k = m + 1 := ⟨k - 1, by omega⟩
    refine F.ok scDc (fun vs H Q E h => ?_) (fun cdv A outer s H vs Q E hr h => ?_)
    · obtain ⟨a, p, rfl, _⟩ := h
      rfl
    · obtain ⟨a, p, rfl, _, hd, _⟩ := h
      have := Pr.depth_pos p
      exact absurd hd (by omega)
  | d + 1 => by
    have ih := ok_dc hk F T hm kp hb d
    have GP : CalX P w K mg base CX0 (k + d) "direct_calls" (spDc C d) := ⟨f, fd, _, ih, hm, kp, hb⟩
    show FnOk P w K mg base CX0 (k + d + 1) f fd _ _
    refine F.ok scDc (fun vs H Q E h => ?_) (fun cdv A outer s H vs Q E hr h => ?_)
    · obtain ⟨a, p, rfl, _⟩ := h
      rfl
    · obtain ⟨a, p, rfl, ha, hd, hz, q⟩ := h
      refine ⟨_, pss_cons (ps_if (pt_cmpR op_eq (pe_fld (pv 0) rfl) pe_str (nomark _)) (pss_one (ps_ret (pe_lst (pa_cons (pe_ix ix_tup (pe_fld (pv 0) rfl) pe_int (fun _ _ => rfl)) pa_nil)))) pss_nil)
        (pss_cons (ps_if (pt_cmpR op_eq (pe_fld (pv 0) rfl) pe_str (nomark _)) (pss_one (ps_ret (pe_cx (E := fun _ => E0) GP hr (Nat.le_refl _) (by rfl) at0 (pa_cons (pe_ix ix_tup (pe_fld (pv 0) rfl) pe_int (fun _ _ => rfl)) pa_nil)))) pss_nil)
        (pss_cons (ps_if (pt_cmpR op_eq (pe_fld (pv 0) rfl) pe_str (nomark _)) (pss_one (ps_ret (pe_op op_cat (pe_cx (E := fun _ => E0) GP hr (Nat.le_refl _) (by rfl) at0 (pa_cons (pe_ix ix_tup (pe_fld (pv 0) rfl) pe_int (fun _ _ => rfl)) pa_nil)) (pe_cx (E := fun _ => E0) GP hr (Nat.le_refl _) (by rfl) at0 (pa_cons (pe_ix ix_tup (pe_fld (pv 0) rfl) pe_int (fun _ _ => rfl)) pa_nil))))) pss_nil)
        (pss_one (ps_ret (pe_lst pa_nil))))), ?_⟩
      obtain ⟨t, ps, ⟨dx, h1⟩, h2, h3⟩ := ha.out
      have kd : ∀ {H1 : Hp} (x : Str), Ex H H1 → EvT (tTest (tOp rEq (tFld K (tVar 0) "kind") (tC (.str x)))) [some (.ref a)] H1 (decide (V.str p.kind = V.str x)) := fun x e => et_test (ev_op (ev_fld (ev_var rfl) (e _ _ h1) T.cl T.nK pf_kind) ev_c (rv_eq rfl))
      have part : ∀ {H1 : Hp} (i : Int) (v : V), Ex H H1 → atI ps i = some v → Ev (tOp (rIxT K) (tFld K (tVar 0) "parts") (tC (.int i))) [some (.ref a)] H1 v := fun i v e hv => ev_op (ev_fld (ev_var rfl) (e _ _ h1) T.cl T.nP pf_parts) ev_c (rv_ixT (st_of (e _ _ h2)) hv)
      have recu : ∀ {H1 : Hp} (i : Int) (b : Addr) (r : Pr), Ex H H1 → atI ps i = some (.ref b) → PrAt C H1 b r → r.depth ≤ (d : Int) → r.size ≤ 400 → EvL (tCallS (spDc C d) (fun _ => E0) (tCons (tOp (rIxT K) (tFld K (tVar 0) "parts") (tC (.int i))) tNil)) [some (.ref a)] H1 ((dcs r).map V.str) := fun i b r e hv hr hd hz => el_cx (ea_cons (part i _ e hv) ea_nil) (fun H2 e2 Q2 q2 E2 => ⟨b, r, rfl, hr.ex e2, hd, hz, q2⟩)
      cases p with
      | choice os =>
        refine q_when (b := false) (et_is (kd "call" (Ex.refl H)) (by show decide (V.str "choice" = V.str "call") = false; decide +kernel)) (fun z => nomatch z) (fun _ H1 e1 => ?_)
        refine q_when (b := false) (et_is (kd "new" e1) (by show decide (V.str "choice" = V.str "new") = false; decide +kernel)) (fun z => nomatch z) (fun _ H2 e2 => ?_)
        refine q_when (b := false) (et_is (kd "if" (e1.trans e2)) (by show decide (V.str "choice" = V.str "if") = false; decide +kernel)) (fun z => nomatch z) (fun _ H3 e3 => ?_)
        exact s_retL (xs := []) (el_lst ea_nil (by decide)) (fun p H4 hp e4 h4 => q p H4 (fresh_back ((e1.trans e2).trans e3) hp) (((e1.trans e2).trans e3).trans e4) h4)
      | new n m r =>
        refine q_when (b := false) (et_is (kd "call" (Ex.refl H)) (by show decide (V.str "new" = V.str "call") = false; decide +kernel)) (fun z => nomatch z) (fun _ H1 e1 => ?_)
        obtain ⟨b, rfl, h4⟩ := h3
        have hdd : (Pr.new n m r).depth = 1 + r.depth := by rw [Pr.depth]
        have hzz : (Pr.new n m r).size = 1 + r.size := by rw [Pr.size]
        refine q_when (b := true) (et_is (kd "new" e1) (by show decide (V.str "new" = V.str "new") = true; decide +kernel)) (fun _ H2 e2 => ?_) (fun z => nomatch z)
        have x2 := e1.trans e2
        exact s_retL (recu 2 b r x2 rfl (h4.ex x2) (by omega) (by omega)) (fun p H4 hp e4 h4 => q p H4 (fresh_back x2 hp) (x2.trans e4) h4)
      | cond lo ro yp np =>
        refine q_when (b := false) (et_is (kd "call" (Ex.refl H)) (by show decide (V.str "if" = V.str "call") = false; decide +kernel)) (fun z => nomatch z) (fun _ H1 e1 => ?_)
        refine q_when (b := false) (et_is (kd "new" e1) (by show decide (V.str "if" = V.str "new") = false; decide +kernel)) (fun z => nomatch z) (fun _ H2 e2 => ?_)
        obtain ⟨by_, bn, rfl, h4, h5⟩ := h3
        have hdd : (Pr.cond lo ro yp np).depth = 1 + max yp.depth np.depth := by rw [Pr.depth]
        have hzz : (Pr.cond lo ro yp np).size = 1 + (yp.size + np.size) := by rw [Pr.size]
        have p1 := Pr.size_pos yp
        have p2 := Pr.size_pos np
        have l1 := dcs_len yp
        have l2 := dcs_len np
        refine q_when (b := true) (et_is (kd "if" (e1.trans e2)) (by show decide (V.str "if" = V.str "if") = true; decide +kernel)) (fun _ H3 e3 => ?_) (fun z => nomatch z)
        have x3 := (e1.trans e2).trans e3
        refine s_retL (xs := (dcs (.cond lo ro yp np)).map V.str) ?_ (fun p H4 hp e4 h4 => q p H4 (fresh_back x3 hp) (x3.trans e4) h4)
        show EvL _ _ _ ((dcs yp ++ dcs np).map V.str)
        rw [List.map_append]
        exact el_cat (recu 2 by_ yp x3 rfl (h4.ex x3) (by omega) (by omega)) (recu 3 bn np x3 rfl (h5.ex x3) (by omega) (by omega)) (by rw [List.length_map, List.length_map]; omega)
      | call z ops =>
        obtain ⟨u, rfl, h4⟩ := h3
        refine q_when (b := true) (et_is (kd "call" (Ex.refl H)) (by show decide (V.str "call" = V.str "call") = true; decide +kernel)) (fun _ H1 e1 => ?_) (fun z => nomatch z)
        exact s_retL (xs := [.str z]) (el_lst (ea_cons (part 0 _ e1 rfl) ea_nil) (by show 1 ≤ 100000; decide)) (fun p H4 hp e4 h4 => q p H4 (fresh_back e1 hp) (e1.trans e4) h4)
end
end Fs

set_option Elab.async false
set_option linter.all false
set_option maxRecDepth 100000
set_option maxHeartbeats 16000000
/-! programs: where direct calls lead -/
namespace Fs
open PySem L2 Evl FsE FsC FsR FsA FsD FsU FsK StX FsI
section
variable {σ : L2.St} {H : Hp} {te tl : TE} {tz tu : TS} {D : Ends} {K : PySem.W.Frag} {xs zs : List V} {i j : Nat} {l : Addr} {y : V}
theorem et_truth (h : Ev te σ H (.ref l)) (hl : H l = some (.lst xs)) : EvT (fun σ H Q => te σ H fun x H' => ∃ k, TruV K x H' k ∧ Q k H') σ H (!xs.isEmpty) := fun H3 e3 Q3 q3 => h H3 e3 _ fun H4 e4 => ⟨_, .inl ⟨_, sq_of ((e3.trans e4) _ _ hl), rfl⟩, q3 H4 e4⟩
theorem q_pop (s1 : σ[i]? = some (some (.ref l))) (hl : H l = some (.lst (xs ++ [y]))) (k : tz D (σ.set j (some y)) (upd H l (.lst xs))) : tSeq (tAsg (tBM0 K "list" rPop (tVar i)) (gName j)) tz D σ H :=
  ⟨_, s1, .inl ⟨rfl, _, sq_of hl⟩, l, xs ++ [y], y, rfl, rfl, hl, by rw [List.length_append, List.length_singleton, Nat.add_sub_cancel, List.getElem?_append_right (Nat.le_refl _), Nat.sub_self]; rfl, by rw [List.dropLast_concat]; exact k⟩
theorem s_ext (s1 : σ[i]? = some (some (.ref l))) (hl : H l = some (.lst xs)) (h : EvL te σ H zs) (hz : xs.length + zs.length ≤ 100000) (k : ∀ H1, Ex H H1 → D.nx σ (upd H1 l (.lst (xs ++ zs)))) : tDrop (tBM K "list" rExtend (tVar i) (tCons te tNil)) D σ H :=
  ⟨_, s1, .inl ⟨rfl, _, sq_of hl⟩, h H (Ex.refl H) _ fun b H1 hb e1 h1 => ⟨l, b, xs, zs, rfl, rfl, e1 _ _ hl, h1, sz_of hz, k H1 e1⟩⟩
end
theorem nd_le : ∀ {ns ms : List Str}, ns.Nodup → (∀ z ∈ ns, z ∈ ms) → ns.length ≤ ms.length
  | [], ms, _, _ => Nat.zero_le _
  | z :: ns, ms, nd, h => by
    obtain ⟨n1, n2⟩ := List.nodup_cons.mp nd
    have hz := h z (List.mem_cons_self ..)
    have l := List.length_erase_of_mem hz
    have p : 0 < ms.length := List.length_pos_of_mem hz
    have := nd_le (ns := ns) (ms := ms.erase z) n2 fun y hy => (List.mem_erase_of_ne (by rintro rfl; exact n1 hy)).mpr (h y (List.mem_cons_of_mem _ hy))
    rw [List.length_cons]
    omega
theorem lk_ed {z : Str} : ∀ {es : Eds}, z ∈ es.map (·.1) → ∃ l, es.lookup z = some l ∧ (z, l) ∈ es
  | [], h => nomatch h
  | x :: es, h => by
    rw [List.lookup_cons]
    by_cases hz : z = x.1
    · rw [show (z == x.1) = true from beq_iff_eq.mpr hz]
      exact ⟨_, rfl, by rw [hz]; exact List.mem_cons_self ..⟩
    · rw [show (z == x.1) = false from beq_eq_false_iff_ne.mpr hz]
      rcases List.mem_cons.mp h with h | h
      · exact absurd h hz
      · obtain ⟨l, h1, h2⟩ := lk_ed h
        exact ⟨l, h1, List.mem_cons_of_mem _ h2⟩
def Closed (es : Eds) : Prop := ∀ x y, Ed es x y → y ∈ es.map (·.1)
/-- the state of the walk -/
structure Wk (es : Eds) (z : Str) (fs ls : List Str) : Prop where
  nd : fs.Nodup
  fk : ∀ y ∈ fs, y ∈ es.map (·.1)
  lk : ∀ y ∈ ls, y ∈ es.map (·.1)
  re : ∀ y, y ∈ fs ∨ y ∈ ls → Reach es z y
  st : ∀ y, Ed es z y → y ∈ fs ∨ y ∈ ls
  cl : ∀ x ∈ fs, ∀ y, Ed es x y → y ∈ fs ∨ y ∈ ls
  ln : ls.length ≤ 400 * (fs.length + 1)
theorem Wk.start {es : Eds} {z : Str} {l : List Str} (hl : es.lookup z = some l) (hc : Closed es) (h4 : l.length ≤ 400) : Wk es z [] l :=
  ⟨.nil, (fun y h => nomatch h), fun y hy => hc z y ⟨l, hl, hy⟩, fun y h => h.elim (fun h => nomatch h) fun h => .one ⟨l, hl, h⟩, fun y ⟨l', h1, h2⟩ => by
    rw [hl] at h1
    cases h1
    exact .inr h2, (fun x h => nomatch h), by show l.length ≤ 400 * (0 + 1); omega⟩
theorem Wk.skip {es : Eds} {z x : Str} {fs ls : List Str} (w : Wk es z fs (ls ++ [x])) (hx : x ∈ fs) : Wk es z fs ls :=
  ⟨w.nd, w.fk, fun y hy => w.lk y (List.mem_append_left _ hy), fun y h => w.re y (h.imp id (List.mem_append_left _)), fun y h => (w.st y h).elim .inl fun g => (List.mem_append.mp g).elim .inr fun g => .inl (by rw [List.mem_singleton.mp g]; exact hx), fun u hu y h => (w.cl u hu y h).elim .inl fun g => (List.mem_append.mp g).elim .inr fun g => .inl (by rw [List.mem_singleton.mp g]; exact hx), by
    have := w.ln
    rw [List.length_append] at this
    omega⟩
theorem Wk.step {es : Eds} {z x : Str} {fs ls l : List Str} (w : Wk es z fs (ls ++ [x])) (hx : x ∉ fs) (hl : es.lookup x = some l) (hc : Closed es) (h4 : l.length ≤ 400) : Wk es z (fs ++ [x]) (ls ++ l) := by
  have rx : Reach es z x := w.re x (.inr (List.mem_append_right _ (List.mem_singleton.mpr rfl)))
  have mv : ∀ y, y ∈ fs ∨ y ∈ ls ++ [x] → y ∈ fs ++ [x] ∨ y ∈ ls ++ l := fun y h => h.elim (fun h => .inl (List.mem_append_left _ h)) fun h => (List.mem_append.mp h).elim (fun h => .inr (List.mem_append_left _ h)) fun h => .inl (List.mem_append_right _ h)
  refine ⟨?_, fun y hy => ?_, fun y hy => ?_, fun y h => ?_, fun y h => mv y (w.st y h), fun u hu y h => ?_, ?_⟩
  · rw [List.nodup_append]
    refine ⟨w.nd, by simp, fun a ha b hb e => ?_⟩
    rw [List.mem_singleton.mp hb] at e
    rw [e] at ha
    exact hx ha
  · rcases List.mem_append.mp hy with hy | hy
    · exact w.fk y hy
    · rw [List.mem_singleton.mp hy]
      exact w.lk x (List.mem_append_right _ (List.mem_singleton.mpr rfl))
  · rcases List.mem_append.mp hy with hy | hy
    · exact w.lk y (List.mem_append_left _ hy)
    · exact hc x y ⟨l, hl, hy⟩
  · rcases h with h | h
    · rcases List.mem_append.mp h with h | h
      · exact w.re y (.inl h)
      · rw [List.mem_singleton.mp h]
        exact rx
    · rcases List.mem_append.mp h with h | h
      · exact w.re y (.inr (List.mem_append_left _ h))
      · exact .more rx ⟨l, hl, h⟩
  · rcases List.mem_append.mp hu with hu | hu
    · exact mv y (w.cl u hu y h)
    · rw [List.mem_singleton.mp hu] at h
      obtain ⟨l', h1, h2⟩ := h
      rw [hl] at h1
      cases h1
      exact .inr (List.mem_append_right _ h2)
  · have := w.ln
    rw [List.length_append] at this ⊢
    rw [List.length_append]
    have e : [x].length = 1 := rfl
    omega
theorem Wk.done {es : Eds} {z : Str} {fs : List Str} (w : Wk es z fs []) : ∀ y, y ∈ fs ↔ Reach es z y := fun y => ⟨fun h => w.re y (.inl h), fun h => by
  induction h with
  | one h => exact (w.st _ h).elim id fun g => nomatch g
  | more _ h ih => exact (w.cl _ ih _ h).elim id fun g => nomatch g⟩
section
variable {P : Program} {w : World} {K : PySem.W.Frag} {mg : Str → Option Value} {base : Heap} {C CB CK CN CD CW N : Addr}
/-- names_behind -/
def spNb : Sp := fun vs H Q _ => ∃ (z : Str) (c : Addr) (cvs : List (Key × V)) (es : Eds), vs = [.str z, .ref c] ∧ H c = some (.dK cvs) ∧ CtAt H cvs es ∧ es.length ≤ 12 ∧ (∀ e ∈ es, e.2.length ≤ 400) ∧ Closed es ∧ z ∈ es.map (·.1) ∧ ∀ fs : List Str, (∀ y, y ∈ fs ↔ Reach es z y) → RetL (fs.map V.str) H Q
abbrev nsNb : List Str := ["start", "calls", "found", "left", "name"]
theorem scNb : FnScope nsNb ["start", "calls"] (defScope (topS 55)) := ⟨rfl, rfl, rfl, by decide +kernel, rfl, by decide +kernel, by decide +kernel⟩
theorem ok_nb {f : Addr} {fd : FuncData} (F : Fun K "names_behind" "names_behind" (topS 55) f fd) (hls : mg "list" = none) : FnOk P w K mg base CX0 1 f fd ["start", "calls"] spNb := by
  refine F.ok scNb (fun vs H Q E h => ?_) (fun cdv A outer s H vs Q E hr h => ?_)
  · obtain ⟨z, c, cvs, es, rfl, _⟩ := h
    rfl
  · obtain ⟨z, c, cvs, es, rfl, hc, ct, h12, h400, hcl, hz, q⟩ := h
    refine ⟨_, pss_cons (ps_set (i := 2) scNb.nd rfl (Or.inl rfl) (pe_lst pa_nil))
      (pss_cons (ps_set (i := 3) scNb.nd rfl (Or.inl rfl) (pe_callTy call_list_of (by rfl) hls (by decide +kernel) (pa_cons (pe_dget (hu_of hr) (pv 1) (pv 0) (fun _ _ => rfl)) pa_nil)))
      (pss_cons (ps_while PassesOwn.never (pt_truth (pv 3) (fun _ => rfl))
        (pss_cons (ps_set (i := 4) scNb.nd rfl (Or.inl rfl) (pe_bm0 PySem.F.plainAttrs_list PySem.F.slot_list_pop PySem.F.type_list_pop mt_pop (pv 3)))
        (pss_one (ps_if (pt_cmpR op_notIn_seq (pv 4) (pv 2) (by rfl))
          (pss_cons (ps_expr (pe_bm PySem.F.plainAttrs_list PySem.F.slot_list_append PySem.F.type_list_append mt_append (pv 2) (pa_cons (pv 4) pa_nil)))
            (pss_one (ps_expr (pe_bm PySem.F.plainAttrs_list PySem.F.slot_list_extend PySem.F.type_list_extend mt_extend (pv 3) (pa_cons (pe_callTy call_list_of (by rfl) hls (by decide +kernel) (pa_cons (pe_dget (hu_of hr) (pv 1) (pv 4) (fun _ _ => rfl)) pa_nil)) pa_nil))))) pss_nil))))
      (pss_one (ps_ret (pv 2))))), ?_⟩
    have lst : ∀ {H1 : Hp} {σ : L2.St} {i : Nat} {x : Str} {l : List Str}, Ex H H1 → σ[1]? = some (some (.ref c)) → σ[i]? = some (some (.str x)) → es.lookup x = some l → EvL (tCB (rListS K) (tCons (tDGet (tVar 1) (tVar i)) tNil)) σ H1 (l.map V.str) := fun {H1 σ i x l} e s1 s2 hl => by
      obtain ⟨a, g1, g2⟩ := (ct_get (z := x) ct.keys ct.vals).1 l hl
      exact el_list (ev_dget (key := .inr x) (ev_var s1) (ev_var s2) (e _ _ hc) g1) (sq_of (e _ _ g2))
    obtain ⟨l0, hl0, hm0⟩ := lk_ed hz
    refine q_asgL (xs := []) (el_lst ea_nil (by decide)) (fun fa H1 hfa e1 h1 => ?_)
    refine q_asgL (xs := l0.map V.str) (lst e1 rfl rfl hl0) (fun la H2 hla e2 h2 => ?_)
    have nfl : fa ≠ la := ne_of_none h1 hla
    have hla0 : H la = none := fresh_back e1 hla
    refine q_while (fun m σ' H' => ∃ (fs ls : List Str) (v4 : Option V), σ' = [some (.str z), some (.ref c), some (.ref fa), some (.ref la), v4] ∧ Ex H H' ∧ H' fa = some (.lst (fs.map V.str)) ∧ H' la = some (.lst (ls.map V.str)) ∧ Wk es z fs ls ∧ m = (12 - fs.length) * 401 + ls.length) _ ⟨[], l0, none, rfl, e1.trans e2, e2 _ _ h1, h2, Wk.start hl0 hcl (h400 _ hm0), rfl⟩ (fun m σ' H' ⟨fs, ls, v4, hσ, e, k1, k2, wk, hm⟩ => ?_)
    subst hσ
    refine ⟨_, et_truth (K := K) (ev_var rfl) k2, fun hb H3 e3 => ?_, fun hb H3 e3 => ?_⟩
    · have hne : ls ≠ [] := fun y => by
        rw [y] at hb
        cases hb
      obtain ⟨ls', x, rfl⟩ : ∃ ls' x, ls = ls' ++ [x] := ⟨ls.dropLast, ls.getLast hne, (List.dropLast_concat_getLast hne).symm⟩
      have hfl := nd_le wk.nd wk.fk
      rw [List.length_map] at hfl
      refine ⟨fun σ2 H2 => ∃ m', m' < m ∧ ∃ (fs ls : List Str) (v4 : Option V), σ2 = [some (.str z), some (.ref c), some (.ref fa), some (.ref la), v4] ∧ Ex H H2 ∧ H2 fa = some (.lst (fs.map V.str)) ∧ H2 la = some (.lst (ls.map V.str)) ∧ Wk es z fs ls ∧ m' = (12 - fs.length) * 401 + ls.length, fun σ2 H2 h => h, ?_⟩
      have k23 := e3 _ _ k2
      rw [List.map_append] at k23
      refine q_pop (xs := ls'.map V.str) (y := .str x) rfl k23 ?_
      have x4 : Ex H (upd H3 la (.lst (ls'.map V.str))) := Ex.mut (e.trans e3) hla0
      have f4 : (upd H3 la (.lst (ls'.map V.str))) fa = some (.lst (fs.map V.str)) := by
        rw [upd_ne nfl]
        exact e3 _ _ k1
      have l4 : (upd H3 la (.lst (ls'.map V.str))) la = some (.lst (ls'.map V.str)) := upd_same
      generalize upd H3 la (.lst (ls'.map V.str)) = H4 at x4 f4 l4
      rw [List.length_append] at hm
      have e1' : [x].length = 1 := rfl
      refine s_when (b := !decide (x ∈ fs)) (et_is (et_test (ev_op (ev_var rfl) (ev_var rfl) (rv_niL (sq_of f4) rfl flat_zs))) (by rw [inV_zs])) (fun hb2 H5 e5 => ?_) (fun hb2 H5 e5 => ?_)
      · have hx : x ∉ fs := by simpa using hb2
        obtain ⟨l, hl, hlm⟩ := lk_ed (wk.lk x (List.mem_append_right _ (List.mem_singleton.mpr rfl)))
        have wk2 := wk.step hx hl hcl (h400 _ hlm)
        have hfl2 := nd_le wk2.nd wk2.fk
        rw [List.length_map, List.length_append] at hfl2
        have l400 : l.length ≤ 400 := h400 _ hlm
        have wln := wk.ln
        rw [List.length_append] at wln
        refine q_app (xs := fs.map V.str) (v := .str x) (e5 _ _ f4) (ev_var rfl) (ev_var rfl) (by rw [List.length_map]; omega) (fun H6 e6 => ?_)
        have x6 : Ex H (upd H6 fa (.lst (fs.map V.str ++ [.str x]))) := Ex.mut ((x4.trans e5).trans e6) hfa
        refine s_ext (xs := ls'.map V.str) (zs := l.map V.str) rfl (by rw [upd_ne nfl.symm]; exact (e5.trans e6) _ _ l4) (lst x6 rfl rfl hl) (by rw [List.length_map, List.length_map]; omega) (fun H7 e7 => ?_)
        refine ⟨_, ?_, fs ++ [x], ls' ++ l, _, rfl, Ex.mut (x6.trans e7) hla0, ?_, by rw [upd_same, List.map_append], wk2, rfl⟩
        · rw [List.length_append, List.length_append]
          omega
        · rw [upd_ne nfl, e7 _ _ upd_same, List.map_append]
          rfl
      · have hx : x ∈ fs := by simpa using hb2
        exact ⟨_, by omega, fs, ls', _, rfl, x4.trans e5, e5 _ _ f4, e5 _ _ l4, wk.skip hx, rfl⟩
    · have hnil : ls = [] := by
        cases z : ls with
        | nil => rfl
        | cons y ys =>
          rw [z] at hb
          cases hb
      subst hnil
      exact s_ret (ev_var rfl) (fun H4 e4 => q fs wk.done fa H4 hfa ((e.trans e3).trans e4) ((e3.trans e4) _ _ k1))
end
end Fs

set_option Elab.async false
set_option linter.all false
set_option maxRecDepth 100000
set_option maxHeartbeats 16000000
/-! programs: definitions that lead back to themselves -/
namespace Fs
open PySem L2 Evl FsE FsC FsR FsA FsD FsU FsK StX FsI
section
variable {σ : L2.St} {H : Hp} {te ta tb tl tk tv : TE} {tz tu : TS} {D : Ends} {K : PySem.W.Frag} {xs zs : List V} {i j : Nat} {l : Addr} {y : V}
/-- a new dict, with a word of its pairs -/
def EvDW (te : TE) (σ : L2.St) (H : Hp) (Pv : List (Key × V) → Hp → Prop) : Prop := ∀ H1, Ex H H1 → ∀ Q : VK, (∀ p H2 cvs, H1 p = none → Ex H1 H2 → H2 p = some (.dK cvs) → Pv cvs H2 → Q (.ref p) H2) → te σ H1 Q
theorem s_lockDc {d : Addr} {kvs : List (Key × V)} {Pv : List (Key × V) → Hp → Prop} (hd : H d = some (.dK kvs)) (h : ∀ od, EvDW te σ (upd H d (.frz od (.dK kvs))) Pv) (hp : ∀ od H2 cvs, H2 d = some (.frz od (.dK kvs)) → Pv cvs H2 → Pv cvs (upd H2 d (.dK kvs)))
    (k : ∀ p H2 cvs, H p = none → Ex H H2 → H2 p = some (.dK cvs) → Pv cvs H2 → D.nx (σ.set i (some (.ref p))) H2) : tLock (tAsg te (gName i)) D σ H :=
  ⟨d, .dK kvs, hd, trivial, fun od => h od _ (Ex.refl _) _ fun p H2 cvs hpn e2 h2 hv => by
    have hpd : p ≠ d := fun z => by
      rw [z, upd_same] at hpn
      cases hpn
    rw [upd_ne hpd] at hpn
    have h2d := e2 _ _ upd_same
    refine ⟨h2d, k p _ cvs hpn (fun c o hc => ?_) (by rw [upd_ne hpd]; exact h2) (hp od H2 cvs h2d hv)⟩
    by_cases z : c = d
    · rw [z] at hc ⊢
      rw [upd_same, ← hd, hc]
    · rw [upd_ne z]
      exact e2 _ _ (by rw [upd_ne z]; exact hc)⟩
end
theorem valV_mem {k : Key} {v : V} : ∀ {kvs : List (Key × V)}, (kvs.map (·.1)).Nodup → (k, v) ∈ kvs → valV kvs k = some v
  | [], _, h => nomatch h
  | p :: kvs, nd, h => by
    obtain ⟨n1, n2⟩ := List.nodup_cons.mp nd
    rcases List.mem_cons.mp h with h | h
    · rw [← h]
      exact valV_pos rfl
    · rw [valV_neg (fun y => n1 (by
        have y : p.1 = k := y
        show p.1 ∈ _
        rw [y]
        exact List.mem_map.mpr ⟨_, h, rfl⟩))]
      exact valV_mem n2 h
/-- the pairs so far -/
def DcW (ds : Ds) (H1 : Hp) (Dl : Addr) (i : Nat) (H' : Hp) : Prop := H1 Dl = none ∧ Ex H1 H' ∧ ∃ cvs, H' Dl = some (.dK cvs) ∧ CtAt H' cvs (edOf (ds.take i))
theorem ct_upd {H : Hp} {cvs kvs : List (Key × V)} {es : Eds} {Dl : Addr} {o : HO} (h : CtAt H cvs es) (hd : H Dl = some (.dK kvs) ∨ ∃ od u, H Dl = some (.frz od u)) : CtAt (upd H Dl o) cvs es := ⟨h.keys, h.vals.imp fun v e ⟨l, h1, h2⟩ => ⟨l, h1, by
  rw [upd_ne (fun z => by
    rw [z] at h2
    rcases hd with hd | ⟨od, u, hd⟩ <;> (rw [hd] at h2; cases h2))]
  exact h2⟩⟩
theorem lookup_none {α : Type} {z : Str} : ∀ {es : List (Str × α)}, z ∉ es.map (·.1) → es.lookup z = none
  | [], _ => rfl
  | x :: es, h => by
    rw [List.lookup_cons, show (z == x.1) = false from beq_eq_false_iff_ne.mpr (fun y => h (by rw [y]; exact List.mem_cons_self ..))]
    exact lookup_none fun y => h (List.mem_cons_of_mem _ y)
theorem edOf_keys {ds : Ds} : (edOf ds).map (·.1) = ds.map (·.1) := by
  unfold edOf
  rw [List.map_map]
  rfl
section
variable {P : Program} {w : World} {K : PySem.W.Frag} {mg : Str → Option Value} {base : Heap} {C CB CK CN CD CW CE N : Addr}
/-- book[z], the dict locked or not -/
def spBkGetR (CK : Addr) : Sp := fun vs H Q _ => ∃ (a d : Addr) (z : Str) (kvs : List (Key × V)) (v : V), vs = [.ref a, .str z] ∧ BkV CK H a d ∧ Rd H d (.dK kvs) ∧ valV kvs (.inr z) = some v ∧ RetV v H Q
theorem ok_bkgetR {f : Addr} {fd : FuncData} {k : Nat} (F : Fun K "__getitem__" "Book.__getitem__" (inClass (topS 26) 2) f fd) (T : BkT K mg CK CB) (R : RaisesX P w K mg base "NoName" CN "name" k) : FnOk P w K mg base (L2.CX P w) (k + 1) f fd ["self", "at"] (spBkGetR CK) := by
  refine F.okX scBkGet (fun vs H Q E h => ?_) (fun cdv A outer s H vs Q E hr h => ?_)
  · obtain ⟨a, d, z, kvs, v, rfl, _⟩ := h
    rfl
  · obtain ⟨a, d, z, kvs, v, rfl, ⟨dx, h1⟩, h2, hv, q⟩ := h
    refine ⟨_, pss_cons (ps_if (pt_cmp (pc_dnotin (hu_of hr) (pv 1) (pe_fld (pv 0) rfl)))
        (pss_one (ps_raise (W := fun cls d _ H => E cls d H) rfl (takes_of rfl rfl rfl rfl) (R _ rfl rfl rfl rfl rfl hr _ _ _ _ (pa_cons (pv 1) pa_nil) (by rfl) (by rfl) (by rfl)))) pss_nil)
      (pss_one (ps_ret (pe_dget (hu_of hr) (pe_fld (pv 0) rfl) (pv 1) (fun _ _ => rfl)))), ?_⟩
    have ni : EvT (tB (tDNotIn (tVar 1) (tFld K (tVar 0) "by_name"))) [some (.ref a), some (.str z)] H (!(valV kvs (.inr z)).isSome) := fun H1 e Q' q' =>
      ⟨_, rfl, ev_fld (K := K) (ev_var rfl) h1 T.cl T.nB bk_lookup H1 e _ fun H3 e3 => ⟨d, _, rfl, .inl ⟨kvs, .inr z, rd_ex (e.trans e3) h2, rfl, rfl⟩, _, rfl, q' H3 e3⟩⟩
    refine q_when (b := false) (et_is ni (by rw [hv]; rfl)) (fun y => nomatch y) (fun hb H1 e1 => ?_)
    exact s_ret (v := v) (ev_dgetR (key := .inr z) (ev_fld (ev_var rfl) (e1 _ _ h1) T.cl T.nB bk_lookup) (ev_var rfl) (fun H2 e2 => rd_ex (e1.trans e2) h2) hv) (fun H2 e2 => q H2 (e1.trans e2))
/-- what is due for definitions that lead back -/
def EndOut (ds : Ds) (o : Option Str) : Prop := ∃ ys : List Str, ys.Perm (ds.map (·.1)) ∧ PyProof.Rows.sortedS ys = true ∧ ((o = none ∧ ∀ z ∈ ys, ¬ Reach (edOf ds) z z) ∨ ∃ i z, ys[i]? = some z ∧ o = some z ∧ Reach (edOf ds) z z ∧ ∀ y ∈ ys.take i, ¬ Reach (edOf ds) y y)
def EOut (CE : Addr) (o : Option Str) (H : Hp) (Q : VK) (E : XK) : Prop := (o = none → RetV .non H Q) ∧ ∀ z, o = some z → BadF CE "name" z H E
theorem EOut.ex {o : Option Str} {H H' : Hp} {Q : VK} {E : XK} (e : Ex H H') (h : EOut CE o H Q E) : EOut CE o H' Q E := ⟨fun z H2 e2 => h.1 z H2 (e.trans e2), fun z hz => (h.2 z hz).ex e⟩
def spEnds (CK CD C CE : Addr) : Sp := fun vs H Q E => ∃ (b : Addr) (ds : Ds), vs = [.ref b] ∧ BkP CK CD C H b ds ∧ Closed (edOf ds) ∧ ∀ o, EndOut ds o → EOut CE o H Q E
abbrev nsEnds : List Str := ["book", "calls", "name"]
theorem scEnds : FnScope nsEnds ["book"] (defScope (topS 53)) := ⟨rfl, rfl, rfl, by decide +kernel, rfl, by decide +kernel, by decide +kernel⟩
theorem DfAt.keepL {H H' : Hp} (e : ExC CD H H') {a b : Addr} {ns : List Str} (h : DfAt CD H a ns b) : DfAt CD H' a ns b := by
  obtain ⟨dx, t, h2, h3⟩ := h
  exact ⟨dx, t, e.ins _ _ _ h2, e.tup _ _ h3⟩
abbrev tvEnds (K : PySem.W.Frag) (CK C : Addr) : TE := tCallS (spDc C 20) (fun _ => E0) (tCons (tFld K (tIxO CK (spBkGetR CK) (fun _ => E0) (tVar 0) (tVar 2)) "body") tNil)
theorem ok_ends {f fn fg fi : Addr} {fd fdn gd di : FuncData} {k kg : Nat} (hk : 2 ≤ k) (hkg : kg + 1 ≤ k) (F : Fun K "check_ends" "check_ends" (topS 53) f fd) (TB : BkT K mg CK CB) (TD : DfT K mg CD) (MN : Meth K CK "names" fn) (FN : FnOk P w K mg base CX0 1 fn fdn ["self"] (spBkNames CK)) (BN : Binds K fdn ["self"] [])
    (IX : IxM K CK fg) (FG : FnOk P w K mg base (L2.CX P w) kg fg gd ["self", "at"] (spBkGetR CK)) (BG : Binds K gd ["self", "at"] []) (MI : ItM K CK fi) (FI : ∀ base, FnOk P w K mg base CX0 1 fi di ["self"] (spItD base (BkV CK))) (BI : Binds K di ["self"] []) (GD : CalX P w K mg base CX0 k "direct_calls" (spDc C 20)) (GN : CalX P w K mg base CX0 1 "names_behind" spNb) (R : RaisesX P w K mg base "Endless" CE "name" k) :
    FnOk P w K mg base (L2.CX P w) (k + 1) f fd ["book"] (spEnds CK CD C CE) := by
  refine F.okX scEnds (fun vs H Q E h => ?_) (fun cdv A outer s H vs Q E hr h => ?_)
  · obtain ⟨b, ds, rfl, _⟩ := h
    rfl
  · obtain ⟨b, ds, rfl, bk, hcl, q⟩ := h
    refine ⟨_, pss_cons (ps_lock (ps_setDc (i := 1) (own := [("name", 2)]) (g := gName 2) (tt := tYes) (tk := tVar 2) (tv := tvEnds K CK C) rfl scEnds.nd rfl rfl (sw_trueD rfl rfl rfl (by decide +kernel)) (pi_ownD (C := CK) (R := BkV CK) (pv 0) MI FI (hr.mono (by omega)) BI) (blkOk_by (own := [("name", 2)]) (N := nsEnds) (sc := defScope (topS 53)) (by decide +kernel))
          (fun _ _ _ _ _ => pg_name (i := 2) scEnds.nd rfl (Or.inl rfl)) (fun _ _ _ _ _ => pts_nil) (fun _ _ _ _ _ => pv 2)
          (fun _ _ _ _ _ => pe_cx (E := fun _ => E0) GD hr (Nat.le_refl _) (by rfl) at0 (pa_cons (pe_fld (pe_ixO (E := fun _ => E0) (pv 0) (pv 2) IX FG (hr.mono hkg) BG (fun σ => passesAt_of passL σ)) rfl) pa_nil))))
      (pss_one (ps_for (passes_of rfl) rfl (pi_list (pe_meth0 (E := E0) (pv 0) TB.cl MN FN (hr.mono (by omega)) BN .nil pass0)) (pg_name (i := 2) scEnds.nd rfl (Or.inl rfl))
        (pss_one (ps_if (pt_cmpR op_in_seq (pv 2) (pe_cx (E := fun _ => E0) GN hr (by omega) (by rfl) at0 (pa_cons (pv 2) (pa_cons (pv 1) pa_nil))) (by rfl))
          (pss_one (ps_raise (W := fun cls d _ H => E cls d H) rfl (takes_of rfl rfl rfl rfl) (R _ rfl rfl rfl rfl rfl hr _ _ _ _ (pa_cons (pv 2) pa_nil) (by rfl) (by rfl) (by rfl)))) pss_nil)))), ?_⟩
    obtain ⟨kvs, bk1, tb⟩ := id bk
    obtain ⟨dx, d, h1, h2⟩ := id bk1
    have lkv : kvs.length = ds.length := by
      have e := congrArg List.length tb.keys
      rw [List.length_map, List.length_map] at e
      exact e
    have hl12 := tb.len
    refine s_lockDc (Pv := fun cvs H' => CtAt H' cvs (edOf ds)) h2 (fun od => ?_) (fun od H2 cvs hd hp => ct_upd (kvs := kvs) hp (.inr ⟨od, _, hd⟩)) (fun c H2 cvs hc e2 h2' hct => ?_)
    · intro H1 e1 Q1 q1
      have h1' : (upd H d (.frz od (.dK kvs))) b = some (.ins CK dx [("by_name", .ref d)]) := by
        rw [upd_ne (fun z => by rw [z, h2] at h1; cases h1)]
        exact h1
      have ext : ∀ X, ExC X H (upd H d (.frz od (.dK kvs))) := fun X => ⟨fun c dx fs hc => by
        rw [L2.upd_ne (fun z => by rw [z, h2] at hc; cases hc)]
        exact hc, fun c xs hc => by
        rw [L2.upd_ne (fun z => by rw [z, h2] at hc; cases hc)]
        exact hc⟩
      refine ⟨_, rfl, b, dx, d, od, _, kvs, rfl, e1 _ _ h1', ⟨dx, e1 _ _ h1'⟩, e1 _ _ upd_same, fun Dl hD => ?_⟩
      refine ⟨fun i m H' => m = kvs.length - i ∧ i ≤ kvs.length ∧ DcW ds H1 Dl i H', ⟨kvs.length, by simp, Nat.zero_le _, hD, Ex.new hD, [], upd_same, ⟨rfl, trivial⟩⟩, ?_⟩
      rintro i m H' ⟨rfl, hi, w1, w2, cvs, w3, w4⟩
      by_cases hlt : i < kvs.length
      · refine .inr ⟨⟨w2 _ _ (e1 _ _ upd_same), hlt⟩, fun H'' => DcW ds H1 Dl (i + 1) H'', fun H'' p'' => ⟨kvs.length - (i + 1), by omega, rfl, hlt, p''⟩, fun x H'' y => ?_⟩
        obtain ⟨rfl, key, v, hkv, rfl⟩ := y
        have hid : i < ds.length := by omega
        have hdi : ds[i]? = some ds[i] := List.getElem?_eq_getElem hid
        generalize ds[i] = de at hdi
        obtain ⟨z, dps, dpr⟩ := de
        have hkey : key = .inr z := by
          have e := congrArg (fun l => l[i]?) tb.keys
          simp only [List.getElem?_map, hkv, hdi, Option.map_some] at e
          exact Option.some.inj e
        subst hkey
        have hmem := List.mem_of_getElem? hdi
        obtain ⟨v', g1, g2, pb, g3, g4, g5⟩ : ∃ v' a pb, (kvs.map (·.2))[i]? = some v' ∧ v' = .ref a ∧ DfAt CD H a dps pb ∧ PrAt C H pb dpr := by
          obtain ⟨v', dd, y1, y2, a, pb, y3, y4, y5⟩ := tb.vals.at_ (i := i) (by rw [List.length_map]; exact hlt)
          rw [hdi] at y2
          cases y2
          exact ⟨v', a, pb, y1, y3, y4, y5⟩
        rw [List.getElem?_map, hkv] at pb
        cases pb
        have hv : v = .ref g1 := g3
        have hval : valV kvs (.inr z) = some v := by
          have nd2 : (kvs.map (·.1)).Nodup := by
            rw [tb.keys, show (ds.map fun d => (Sum.inr d.1 : Key)) = (ds.map (·.1)).map Sum.inr from by rw [List.map_map]; rfl]
            exact List.Pairwise.map _ (fun a b hab hh => hab (Sum.inr.inj hh)) tb.nd
          exact valV_mem nd2 (List.mem_of_getElem? hkv)
        refine ⟨rfl, ?_⟩
        show ∃ v0, _ ∧ _
        refine ⟨.str z, rfl, ?_⟩
        refine ⟨_, rfl, _, rfl, b, dx, _, rfl, w2 _ _ (e1 _ _ h1'), b, d, z, kvs, v, rfl, ⟨dx, w2 _ _ (e1 _ _ h1')⟩, .inr ⟨od, w2 _ _ (e1 _ _ upd_same)⟩, hval, fun H5 e5 => ?_⟩
        obtain ⟨dx2, tp, y1, y2⟩ := g4.keepL (ext CD)
        refine ⟨g1, CD, dx2, _, .ref g2, hv, ((e1.trans w2).trans e5) _ _ y1, TD.cl, TD.nB, df_body, g2, dpr, rfl, (g5.keepC (ext C)).ex ((e1.trans w2).trans e5), (tb.sm _ hmem).2.2.1, tb.sz _ hmem, fun lp H6 hlp e6 h6 => ?_⟩
        refine ⟨cvs, .inr z, rfl, (e5.trans e6) _ _ w3, ?_, w1, Ex.mut ((w2.trans e5).trans e6) w1, _, upd_same, ?_⟩
        · have e0 := congrArg List.length w4.keys
          rw [List.length_map, List.length_map] at e0
          unfold edOf at e0
          rw [List.length_map, List.length_take] at e0
          exact sz_lt (by omega)
        · have ct6 := w4.ex (e5.trans e6)
          have hnot : (edOf (ds.take i)).lookup z = none := lookup_none (by
            rw [edOf_keys]
            intro hm
            obtain ⟨j, hj⟩ := List.mem_iff_getElem?.mp hm
            rw [List.getElem?_map] at hj
            have hji : j < i := by
              cases hq : (ds.take i)[j]? with
              | none =>
                rw [hq] at hj
                cases hj
              | some e =>
                have := (List.getElem?_eq_some_iff.mp hq).1
                rw [List.length_take] at this
                omega
            rw [List.getElem?_take, if_pos hji] at hj
            have h1j : (ds.map (·.1))[j]? = some z := by rw [List.getElem?_map]; exact hj
            have h1i : (ds.map (·.1))[i]? = some z := by rw [List.getElem?_map, hdi]; rfl
            have := (List.getElem?_inj (List.getElem?_eq_some_iff.mp h1j).1 tb.nd).mp (h1j.trans h1i.symm)
            omega)
          have fin := ct_snoc (l := dcs dpr) (v := .ref lp) ct6 hnot ⟨lp, rfl, h6⟩
          have et : edOf (ds.take (i + 1)) = edOf (ds.take i) ++ [(z, dcs dpr)] := by
            unfold edOf
            rw [List.take_add_one, hdi, List.map_append]
            rfl
          rw [et]
          exact ct_upd (kvs := cvs) fin (.inl ((e5.trans e6) _ _ w3))
      · have hik : i = kvs.length := by omega
        subst hik
        refine .inl ⟨⟨w2 _ _ (e1 _ _ upd_same), Nat.le_refl _⟩, ?_⟩
        rw [lkv, List.take_length] at w4
        exact q1 Dl H' cvs w1 w2 w3 w4
    · have key := q_forNames (K := K) (tz := tNext) (σ := [some (.ref b), some (.ref c), none]) (H := H2) (i := 0) (j := 2) (D := { nx := fun _ H' => Q .non H', rt := Q }) (tu := tIfS (tTest (tOp (rIn K false) (tVar 2) (tCallS spNb (fun _ => E0) (tCons (tVar 2) (tCons (tVar 1) tNil))))) (fun x σ H => tMkE CE "name" (tCons (tVar 2) tNil) σ H fun cls d H' => E cls d H') tNext) rfl (bk.ex e2)
        (fun ys p i σ' H' => ∃ v2 : Option V, σ' = [some (.ref b), some (.ref c), v2] ∧ Ex H2 H' ∧ H' p = some (.lst (ys.map V.str)) ∧ ∀ y ∈ ys.take i, ¬ Reach (edOf ds) y y)
        (fun ys p H3 _ _ _ e3 h3 => ⟨_, rfl, e3, h3, fun y hy => nomatch hy⟩) (fun ys p i σ' H' ⟨_, _, _, h, _⟩ => h) (fun ys p i z σ' H' hp hs hz ⟨v2, hσ, e, hpl, h0⟩ => ?_) (fun ys p σ' H' hp hs ⟨v2, hσ, e, hpl, h0⟩ => ?_)
      · exact key
      · subst hσ
        have hzm : z ∈ ds.map (·.1) := hp.subset (List.mem_of_getElem? hz)
        obtain ⟨rb, hrb⟩ : ∃ rb : Bool, rb = true ↔ Reach (edOf ds) z z := ⟨@decide _ (Classical.propDecidable _), @decide_eq_true_iff _ (Classical.propDecidable _)⟩
        have test : EvT (tTest (tOp (rIn K false) (tVar 2) (tCallS spNb (fun _ => E0) (tCons (tVar 2) (tCons (tVar 1) tNil))))) [some (.ref b), some (.ref c), some (.str z)] H' rb := et_test fun H4 e4 Q4 q4 => by
          refine ⟨_, rfl, _, rfl, _, rfl, z, c, cvs, edOf ds, rfl, (e.trans e4) _ _ h2', hct.ex (e.trans e4), by unfold edOf; rw [List.length_map]; exact hl12, fun ed hed => ?_, hcl, by rw [edOf_keys]; exact hzm, fun fs hfs p5 H5 hp5 e5 h5 => ?_⟩
          · obtain ⟨de, hde, rfl⟩ := List.mem_map.mp hed
            have := dcs_len de.2.2
            have := tb.sz _ hde
            show (dcs de.2.2).length ≤ 400
            omega
          · refine ⟨p5, fs.map V.str, rfl, .inl (sq_of h5), rfl, flat_zs, ?_⟩
            show Q4 (.bl (if false = true then !(inV (.str z) (fs.map V.str)) else inV (.str z) (fs.map V.str))) H5
            rw [if_neg (by decide), inV_zs]
            have : decide (z ∈ fs) = rb := Bool.eq_iff_iff.mpr (by rw [decide_eq_true_eq, hfs z]; exact hrb.symm)
            rw [this]
            exact q4 H5 e5
        refine s_when test (fun hb H4 e4 => ?_) (fun hb H4 e4 => ?_)
        · have hr9 := hrb.mp hb
          have q1 : BadF CE "name" z H E := (q (some z) ⟨ys, hp, hs, .inr ⟨i, z, hz, rfl, hr9, h0⟩⟩).2 z rfl
          have x4 := (e2.trans e).trans e4
          have zlen : z.length ≤ 1000 := by
            obtain ⟨de, hde, hz9⟩ := List.mem_map.mp hzm
            rw [← hz9]
            exact (tb.sm _ hde).1
          exact ⟨_, rfl, z, rfl, zlen, fun d' hd' => q1 d' _ (x4.trans (Ex.new hd')) (fresh_back x4 hd') upd_same⟩
        · refine ⟨_, rfl, e.trans e4, e4 _ _ hpl, fun y hy => ?_⟩
          rw [List.take_add_one, hz] at hy
          rcases List.mem_append.mp hy with hy | hy
          · exact h0 y hy
          · have hy' : y = z := by simpa using hy
            rw [hy']
            intro hr9
            rw [hrb.mpr hr9] at hb
            cases hb
      · subst hσ
        rw [List.take_length] at h0
        exact (q none ⟨ys, hp, hs, .inl ⟨rfl, h0⟩⟩).1 rfl H' (e2.trans e)
end
end Fs

set_option Elab.async false
set_option linter.all false
set_option maxRecDepth 100000
set_option maxHeartbeats 4000000
/-! An own error over ValueError, by a class between: its __init__ calls super().__init__ with a fixed text, then stores its one argument as the field machine. -/
namespace FsBmachine
open PySem PySem.W PySem.Calls PyProof.Rows PySem.HandSPX
abbrev eS : Scope := { kind := .function, names := [(PySem.Str.ofString "self", .local), (PySem.Str.ofString "machine", .local), (PySem.Str.ofString "__class__", .free), (PySem.Str.ofString "super", .globalImplicit)], isGenerator := false, isCoroutine := false, more := [] }
abbrev eA (p1 p2 : Pos) : Arguments := { posonlyargs := [], args := [{ arg := "self", annotation := none, pos := p1 }, { arg := "machine", annotation := none, pos := p2 }], vararg := none, kwonlyargs := [], kw_defaults := [], kwarg := none, defaults := [] }
abbrev eB (msg : Expr) (p0 p1 p2 p3 p4 p5 p6 p7 p8 : Pos) : List Stmt := [.Expr (.Call (.Attribute (.Call (.Name "super" p0) [] [] p1) "__init__" p2) [msg] [] p3) p4, .Assign [.Attribute (.Name "self" p5) "machine" p6] (.Name "machine" p7) p8]
/-- the message -/
abbrev eM (z : Str) (q0 : Pos) : Expr := .Constant (.str z) 0 q0
abbrev mroVE : List Value := [.type "ValueError", .type "Exception", .type "BaseException", .type "object"]
/-- what the written part says of the class at C, and of its __init__, at fI -/
structure ErrTxt (prog : Program) (K : Frag) (mg : Str → Option Value) (x : Str) (C fI : Addr) : Prop where
  gC : mg x = some (.ref C)
  cls : ∃ nm q N bs bm sn sub ab col dd k0 k1 k2 k3 k5, K.lookup C = some (excClassObj nm q C N bs bm true sn sub ab col dd k0 k1 k2 k3 k5 "ValueError.__new__") ∧ refsVE bm = true
  ei : excInitIn K C mroVE "ValueError.__new__" = true
  sa : findIn K (.ref C) "__setattr__" = some (some (.builtin "object.__setattr__"))
  noN : findIn K (.ref C) "machine" = some none
  iC : findIn K (.ref C) "__init__" = some (some (.ref fI))
  tC : typeIn K (.ref fI) = some (.type "function")
  kC : keepIn K (.ref C) = true
  exC : subIn K (.ref C) (.type "BaseException") = some true
  veC : subIn K (.ref C) (.type "ValueError") = some true
  tyC : typeIn K (.ref C) = some (.type "type")
  slf : mroIn K C (.ref C) = some true
  sup : ks_superIn K C C "__init__" = some (some (.builtin "ValueError.__init__"))
  opq : nsIn K cStatics "thirdparty.any" = some none
  gs : mg "super" = none
  top : (prog.main.scope.names.lookup ("super" : Str)).isSome = false
  fn : ∃ (oc : Value) (od an : Option Addr) (kV doc pm ct : Value) (osl : Array (Option Value)) (qual : Str) (cda cc : Addr) (ccl cl : Value) (cdd cld : Option Addr) (ccs csl : Array (Option Value)) (vs : Array Value) (file : Str) (tf : Tok) (zM : Str) (p1 p2 q0 r0 r1 r2 r3 r4 r5 r6 r7 r8 : Pos),
    K.lookup fI = some ⟨oc, od, .func (ksFn "__init__" qual (eA p1 p2) (eB (eM zM q0) r0 r1 r2 r3 r4 r5 r6 r7 r8) eS .none kV doc pm an (.ref cda) ct cc), osl⟩ ∧ codeIn K (.ref cda) qual = true ∧
    K.lookup cda = some ⟨ccl, cdd, .fields vs, ccs⟩ ∧ vs[2]? = some (.str file tf) ∧ ((prog.main.file : Str) == file) = true ∧ K.lookup cc = some ⟨cl, cld, .cell (some (.ref C)), csl⟩ ∧ zM.length ≤ 1000 ∧ (r2.endLine == r3.line) = true
theorem call_line {o : Expr} {name : Str} {apos pos : Pos} {a : Expr} {env : Env} (hp : (apos.endLine == pos.line) = true) (hs : starEach [a] env = (false, eval a env) :: starEach [] env) : eval (.Call (.Attribute o name apos) [a] [] pos) env = (do
      let ov ← attributeBase o name env (eval o env)
      standAt apos.atName
      let (f, first) ← holding [ov] (getMethod ov name (do return (← importBound o env).getD true))
      callWith pos f first (backTo pos (starEach [a] env)) []) := by
  show (do
      let ov ← attributeBase o name env (eval o env)
      standAt apos.atName
      methodCall o name apos pos env ov 1 (backTo pos (starEach [a] env)) []) = _
  have e : methodCallForm 1 (backTo pos (starEach [a] env)) [] = true := by
    rw [hs]
    rfl
  unfold methodCall
  rw [e]
  unfold methodCallPos calleeOf
  rw [hp]
  simp only [Bool.not_true, Bool.false_or, if_true, pure_bind]
/-- what __init__ leaves of a fresh exception at x, over the heap h -/
structure BtEnd (h h' : Heap) (x C dx t1 : Addr) (v : Value) : Prop where
  keep : ∀ b o, h.get? b = some o → h'.get? b = some o
  obj : h'.get? x = some { cls := .ref C, dict := some dx, data := .fields #[.ref t1, .none, .none, .none, .bool false, .none] }
  dbig : h.objs.size ≤ dx
  dne : dx ≠ x
  ns : h'.Ns1 dx (fun y => if y = "machine" then some v else none)
theorem str_len2 (a b : Str) : (a ++ b).length = a.length + b.length := by
  show (a.cps ++ b.cps).size = _
  rw [Array.size_append]
  rfl
theorem len1 (v : Value) : [v].length ≤ sizeLine := by
  rw [sizeLine_eq]
  exact (by decide : 1 ≤ 16777216)
section
variable {prog : Program} {w : World} {A : Around} {E : Value → Shared → Prop} {R : Result → Shared → Prop} {s : Shared} {K : Frag} {mg : Str → Option Value} {x0 : Str} {C fI : Addr}
theorem bt_init (T : ErrTxt prog K mg x0 C fI) {hp : Heap} {x t0 : Addr} {v : Value} (X : K.In hp) (G : hp.Ns mainGlobals mg) (Bl : ∃ mb, hp.Ns builtinsNs mb ∧ mb "super" = some (.type "super")) (hlim : s.heap.NoLimit)
    (k : ∀ b o, hp.get? b = some o → s.heap.get? b = some o) (hsz : hp.objs.size ≤ s.heap.objs.size) (hx : s.heap.get? x = some (excO C t0)) (hxn : hp.get? x = none) (hroom : A.depth < recursionLimit)
    (hq : ∀ h' tk' dx t1, BtEnd hp h' x C dx t1 v → R (.ok (.ret .none)) { s with heap := h', toks := tk' }) :
    codeAny (model prog w) A (.call (.ref fI) ⟨[.ref x, v], []⟩) R s := by
  obtain ⟨oc, od, an, kV, doc, pm, ct, osl, qual, cda, cc, ccl, cl, cdd, cld, ccs, csl, vs, file, tf, zM, p1, p2, q0, r0, r1, r2, r3, r4, r5, r6, r7, r8, ho, hcd, hcode, hvs, hfile, hcell, hM, hline⟩ := T.fn
  obtain ⟨nm, q, N, bs, bm, sn, sub, ab, col, dd, k0, k1, k2, k3, k5, hC, hbm⟩ := T.cls
  obtain ⟨mb, hb, hmb⟩ := Bl
  have hcl : clsIn K C = some { name := nm, bases := bs, mro := .ref C :: bm, ns := N, qualname := q, hasDict := true, slotNames := sn, subclasses := sub, abstract := ab, collection := col, hasDel := false } := by unfold clsIn; rw [hC] <;> rfl
  have Xs : K.In s.heap := X.keeps k
  have noc : ∀ y ∈ eS.names, y.2 ≠ .cell := by decide +kernel
  have locs : ∀ y ∈ [(("self" : Str), Value.ref x), ("machine", v)], eS.names.lookup y.1 = some .local := fun y hy => by
    rcases List.mem_cons.mp hy with rfl | hy
    · rfl
    · rw [List.mem_singleton.mp hy]
      rfl
  refine ks_codeAny_call_defAt (body := eB (eM zM q0) r0 r1 r2 r3 r4 r5 r6 r7 r8) (binds := [("self", .ref x), ("machine", v)]) hroom (Xs _ _ ho) rfl hlim (codeRec_of Xs hcd) rfl (BindsTo.of_eq (by first | rfl | with_unfolding_all rfl)) noc locs (fun h₁ hns hk₁ => ?_) rfl rfl rfl
  have Fr1 : Fr hp s.heap.objs.size h₁ (fun y => [(("self" : Str), Value.ref x), ("machine", v)].reverse.lookup y) := ⟨hns, fun b o e => hk₁ b o (k b o e), hsz⟩
  have N1 : News hp s.heap.objs.size h₁ [(x, excObj C t0 none .none)] := fun p hp' => by
    rw [List.mem_singleton.mp hp']
    exact ⟨hk₁ _ _ hx, Nat.ne_of_lt (Heap.lt_size hx), hxn⟩
  show _root_.PySem.wpAt (model prog w) _ (.func _ (ksEnv qual eS s.heap.objs.size fI (.ref cda) cc)) (execs (eB (eM zM q0) r0 r1 r2 r3 r4 r5 r6 r7 r8) (ksEnv qual eS s.heap.objs.size fI (.ref cda) cc)) _ _ _
  refine ks_wpAt_execs_cons (ks_wpAt_Expr_any (ks_wpAt_MethodCall ?_ (call_line hline rfl)))
  generalize hE : (fun e s' => wpAny (model prog w) _ (leaving _ e) (fun x s'' => R (Except.error e) s'') (fun e' s'' => R (Except.error e') s'') s') = EE
  have X1 : K.In h₁ := X.keeps Fr1.keep
  -- super()
  refine ks_wpAt_super_base (env := ksEnv qual eS s.heap.objs.size fI (.ref cda) cc) rfl rfl rfl rfl (X1 _ _ ho) rfl rfl rfl (X1 _ _ hcode) rfl hvs hfile T.top ?_
  refine ks_loadName_global rfl rfl (loadGlobal_builtin (env := ksEnv qual eS s.heap.objs.size fI (.ref cda) cc) (G.keeps Fr1.keep) T.gs (hb.keeps Fr1.keep) hmb ⟨rfl, ?_⟩)
  refine wpAny_loadName_free rfl rfl rfl ⟨_, X1 _ _ hcell, rfl⟩ ?_
  refine wpAny_loadName_local (v := .ref x) rfl rfl hns rfl ?_
  refine ks_wpAny_isType_cls (X1 _ _ hC) rfl ⟨rfl, ?_⟩
  refine ks_wpAny_call_super (X1 _ _ hC) rfl (hk₁ _ _ hx) rfl (fun c z => by cases z) (looks_mroIn X1 T.slf) (fun h2 hso k2 => ?_)
  obtain ⟨F2, N2, l2⟩ := ks_newsPush (s := ⟨h₁, s.gens, s.drawn, s.toks + 2, s.os⟩) Fr1 N1 rfl hso k2
  -- its __init__, bound
  refine kxs_method kxs_ValueError F2 X N2 (List.mem_cons_self ..) (InstAt.of_exc0 (c2 := .none) (t := t0) N2 (List.mem_cons_of_mem _ (List.mem_cons_self ..))) T.opq T.sup T.veC rfl (fun u h3 F3 N3 l3 => ?_)
  refine kxs_callWith1 N3 (List.mem_cons_self ..) ?_ rfl rfl
  refine Calls.spliced_cons ?_
  show wpAny _ _ (eval (eM zM q0) (ksEnv qual eS s.heap.objs.size fI (.ref cda) cc)) _ _ _
  refine Calls.Constant_str ?_
  refine Calls.spliced_nil ⟨kxs_at N3 (List.mem_cons_self ..), ?_⟩
  have nx1 : h₁.objs.size ≠ x := fun z => Nat.lt_irrefl _ (z ▸ l2 _ (List.mem_cons_self ..) : x < x)
  have nx2 : u ≠ x := fun z => Nat.lt_irrefl _ (z ▸ l3 _ (List.mem_cons_of_mem _ (List.mem_cons_self ..)) : x < x)
  refine kxs_call F3 X N3 PySem.F.excBase_ValueError T.ei (List.mem_cons_self ..) (.tail nx2 (.tail nx1 (.head fun p hp' => by cases hp'))) (len1 _) (fun t' h4 F4 N4 l4 => ?_)
  -- self.field = field
  have X4 : K.In h4 := X.keeps F4.keep
  have hx4 : h4.get? x = some (excO C t') := (N4 (x, excObj C t' none .none) (List.mem_cons_of_mem _ (List.mem_cons_of_mem _ (List.mem_cons_of_mem _ (List.mem_cons_self ..))))).1
  refine wpAt_of_wpAny (wpAny_execs_cons (plainObj_wpAny_Assign_Attribute ?_))
  refine wpAny_Name (wpAny_loadName_local (v := v) rfl rfl F4.ns rfl ?_) rfl
  refine wpAny_Name (wpAny_loadName_local (v := .ref x) rfl rfl F4.ns rfl ?_) rfl
  refine set_plain X4 (ox := excO C t') (od := none) ⟨hx4, rfl, rfl, trivial⟩ T.sa ?_
  refine exc_osa X4 hx4 hcl (show refsVE (.ref C :: bm) = true from hbm) rfl T.noN (fun h5 tk5 dx k5 dn dne hx5 hn5 => ?_)
  have zz : s.heap.objs.size < h4.objs.size := F4.ns.lt
  exact wpAny_execs_nil (hq h5 tk5 dx t' ⟨fun b o e => k5 b o (fun z => by rw [z, hxn] at e; cases e) (F4.keep b o e), hx5, Nat.le_trans hsz (Nat.le_trans (Nat.le_of_lt zz) dn), dne, hn5⟩)
end
/-- a made one -/
structure BtMade (h h' : Heap) (e C d : Addr) (v : Value) : Prop where
  keep : ∀ b o, h.get? b = some o → h'.get? b = some o
  big : h.objs.size ≤ e
  obj : ∃ t1 : Addr, h'.get? e = some { cls := .ref C, dict := some d, data := .fields #[.ref t1, .none, .none, .none, .bool false, .none] }
  dbig : h.objs.size ≤ d
  dne : d ≠ e
  ns : h'.Ns1 d (fun y => if y = "machine" then some v else none)
section
variable {prog : Program} {w : World} {A : Around} {R : Result → Shared → Prop} {s : Shared} {K : Frag} {mg : Str → Option Value} {x0 : Str} {C fI : Addr}
theorem bt_made (T : ErrTxt prog K mg x0 C fI) {v : Value} (X : K.In s.heap) (G : s.heap.Ns mainGlobals mg) (Bl : ∃ mb, s.heap.Ns builtinsNs mb ∧ mb "super" = some (.type "super")) (hlim : s.heap.NoLimit) (hroom : A.depth + 1 < recursionLimit)
    (hq : ∀ h' tk' e d, BtMade s.heap h' e C d v → R (.ok (.ret (.ref e))) { s with heap := h', toks := tk' }) : codeAny (model prog w) A (.call (.ref C) ⟨[v], []⟩) R s := by
  obtain ⟨nm, q, N, bs, bm, sn, sub, ab, col, dd, k0, k1, k2, k3, k5, hC, hbm⟩ := T.cls
  obtain ⟨g0, gs, dr, t, os⟩ := s
  let g2 : Heap := (g0.push (kdv_tup [v])).push (excO C g0.objs.size)
  have up : ∀ b o, g0.get? b = some o → g2.get? b = some o := fun b o e => Heap.get?_push_of_some _ (Heap.get?_push_of_some _ e)
  have at1 : g2.get? (g0.objs.size + 1) = some (excO C g0.objs.size) := by
    show ((g0.push (kdv_tup [v])).push (excO C g0.objs.size)).get? (g0.objs.size + 1) = _
    heap_get
  have sz2 : g2.objs.size = g0.objs.size + 1 + 1 := by
    show ((g0.push (kdv_tup [v])).push (excO C g0.objs.size)).objs.size = _
    rw [Heap.size_push, Heap.size_push]
  have free1 : g0.get? (g0.objs.size + 1) = none := by
    cases e : g0.get? (g0.objs.size + 1) with
    | none => rfl
    | some o => exact absurd (Nat.lt_of_succ_lt (Heap.lt_size e)) (Nat.lt_irrefl _)
  refine call_own F.excBase_ValueError (fun Y => refsVE_contains Y bm hbm) (X _ _ hC) (looks_findIn X T.iC) (fun self => bind_fn X self T.tC) (len1 _) ?_
  refine bt_init (s := ⟨g2, gs, dr, t, os⟩) (hp := g0) T X G Bl (hlim.keeps up) up (by show g0.objs.size ≤ g2.objs.size; omega) at1 free1 hroom fun h' t' dx t1 ⟨k, ho, dbig, dne, hns⟩ => ?_
  exact ⟨rfl, hq h' t' (g0.objs.size + 1) dx ⟨k, Nat.le_succ _, ⟨t1, ho⟩, dbig, dne, hns⟩⟩
end
end FsBmachine
namespace FsBmachine
open PySem PySem.Spec PyProof.Rows L2
theorem relO_one {v : V} {u : Value} (r : RelV v u) (g : Str) : RelO (List.lookup g [(("machine" : Str), v)]) (if g = "machine" then some u else none) := by
  by_cases h : g = "machine"
  · rw [h, if_pos rfl, show List.lookup ("machine" : Str) [(("machine" : Str), v)] = some v by simp [List.lookup]]
    exact r
  · rw [if_neg h, show List.lookup g [(("machine" : Str), v)] = none by simp [List.lookup, show (g == "machine") = false by simpa using h]]
    trivial
/-- X(v), its one field v -/
def tNew (C : Addr) (te : TE) : TE := fun σ H Q => te σ H fun v H1 => ∀ a d, H1 a = none → H1 d = none → d ≠ a → Q (.ref a) (upd (upd H1 a (exo a C (some d))) d (exd d [("machine", v)]))
theorem pe_new {X : Cx} {C fI : Addr} {x : Str} {e : Expr} {te : TE} {p pos : Pos} (T : ErrTxt X.prog X.K X.mg x C fI) (hr : Room 2 X.A) (he : PE X e te) (hg : Gl X x) (hdb : (x == ("__debug__" : Str)) = false := by decide)
    (hs : starEach [e] X.env = (false, eval e X.env) :: starEach [] X.env := by rfl) (hpl : (backTo pos (starEach [] X.env)).any (·.1) = false := by rfl) : PE X (.Call (.Name x p) [e] [] pos) (tNew C te) := by
  refine ⟨fun pins s σ H Q I h => ?_⟩
  refine wpAny_Call_Name_kw (ld_glob I hg T.gC ?_ hdb)
  refine PySem.W.callWith_K (h₀ := X.base) I.ok.mod.kin T.kC ?_ hs hpl
  rw [hs]
  refine Calls.spliced_cons (thn (he.run pins s σ H _ I h) fun u s1 ⟨v, H1, I1, r1, q1⟩ => ?_)
  refine Calls.spliced_nil ⟨I1.kIn, ?_⟩
  show wpAny _ _ (call (.ref C) [u]) _ _ _
  have lim := I1.nolimit
  obtain ⟨mb, b1, b2⟩ := I1.ok.mod.blt
  have gl : s1.heap.Ns mainGlobals X.mg := I1.ok.mod.glob.keeps I1.bk
  have bl : ∃ mb, s1.heap.Ns builtinsNs mb ∧ mb "super" = some (.type "super") := ⟨mb, b1.keeps I1.bk, (b2 _ (by decide)).trans Boot.«super»⟩
  obtain ⟨g0, gs, dr, t, os⟩ := s1
  refine wpAny_call (bt_made T I1.kIn gl bl lim (by have := hr.dp; omega) fun h' t' a d M => ?_)
  obtain ⟨t1, ho⟩ := M.obj
  obtain ⟨G, ge1, ge2⟩ := restrict h' fun b => decide (b ≠ d)
  have same : ∀ b, b ≠ d → G.get? b = h'.get? b := fun b hb => ge1 b (decide_eq_true hb)
  have gone : G.get? d = none := ge2 d (by simp)
  have old : ∀ b o, g0.get? b = some o → G.get? b = some o := fun b o z => (same b (Nat.ne_of_lt (Nat.lt_of_lt_of_le (Heap.lt_size z) M.dbig))).trans (M.keep b o z)
  have na := I1.hok.fresh M.big
  have nd := I1.hok.fresh M.dbig
  have I2 : Inv X pins σ (upd H1 a (exo a C (some d))) ⟨G, gs, dr, t', os⟩ := I1.laid (t' := t') old M.big (exo_ok ((same a (Ne.symm M.dne)).trans ho))
  have I3 := I2.laidN (h' := h') (a := d) (o := exd d [("machine", v)]) (t' := t') (fun b o z => by
    by_cases hb : b = d
    · rw [hb, gone] at z
      cases z
    · exact (same b hb).symm.trans z) gone (by rw [upd_ne M.dne]; exact nd) (exd_ok M.ns (relO_one r1))
  exact ⟨.ref a, _, I3, rfl, q1 a d na nd M.dne⟩
end FsBmachine

set_option Elab.async false
set_option linter.all false
set_option maxRecDepth 100000
set_option maxHeartbeats 8000000
namespace Fs
open PySem PySem.Spec PyProof.Rows L2 FsBmachine
/-! errors that tell a place; run[i] and run.exchanged(k), which may raise them -/
/-- X(i) made, to be raised -/
def tMkI (C : Addr) (f : Str) (ta : TA) : L2.St → Hp → XK → Prop := fun σ H Q => ta σ H fun vs H1 => ∃ i : Int, vs = [.int i] ∧ ∀ d, H1 d = none → Q (.ref C) (some d) (upd H1 d (.xd [(f, .int i)]))
def RaisesI (P : Program) (w : World) (K : PySem.W.Frag) (mg : Str → Option Value) (base : Heap) (x : Str) (C : Addr) (f : Str) (k : Nat) : Prop :=
  ∀ (X : Cx), X.prog = P → X.w = w → X.K = K → X.mg = mg → X.base = base → Room k X.A → ∀ (a : Expr) (ta : TA) (p pos : Pos), PA X [a] ta → Gl X x → starEach (a :: []) X.env = (false, eval a X.env) :: starEach [] X.env → (backTo pos (starEach [] X.env)).any (·.1) = false →
    PMk X (.Call (.Name x p) [a] [] pos) (tMkI C f ta)
theorem raises_int {P : Program} {w : World} {K : PySem.W.Frag} {mg : Str → Option Value} {base : Heap} {x : Str} {C fI : Addr} {k : Nat} (hdb : (x == ("__debug__" : Str)) = false) (T : ErrTxt P K mg x C fI) : RaisesI P w K mg base x C "machine" k := by
  intro X eP ew eK em eb hr a ta p pos ha hg he hpl pins s σ H Q I h
  subst eP ew eK em eb
  refine wpAny_Call_Name_kw (ld_glob I hg T.gC ?_ hdb)
  refine PySem.W.callWith_K (h₀ := X.base) I.ok.mod.kin T.kC (thn (ha.run pos pins s σ H _ I h) fun us s1 ⟨vs, H1, I1, r1, i, ev, q1⟩ => ?_) he hpl
  subst ev
  refine ⟨I1.kIn, ?_⟩
  cases r1 with
  | cons rv rn =>
    cases rn
    obtain ⟨tk, rfl⟩ := rv
    show wpAny _ _ (call (.ref C) [.int i tk]) _ _ _
    have lim := I1.nolimit
    obtain ⟨mb, b1, b2⟩ := I1.ok.mod.blt
    have gl : s1.heap.Ns mainGlobals X.mg := I1.ok.mod.glob.keeps I1.bk
    have bl : ∃ mb, s1.heap.Ns builtinsNs mb ∧ mb "super" = some (.type "super") := ⟨mb, b1.keeps I1.bk, (b2 _ (by decide)).trans Boot.«super»⟩
    obtain ⟨g0, gs, dr, t, os⟩ := s1
    refine wpAny_call (bt_made T I1.kIn gl bl lim (by have := hr.dp; omega) fun h' t' e d M => ?_)
    show MkP X pins σ Q (.ref e) ⟨h', gs, dr, t', os⟩
    obtain ⟨t1, ho⟩ := M.obj
    obtain ⟨G', ge1, ge2⟩ := restrict h' fun b => decide (b ≠ e)
    have same : ∀ b, b ≠ e → G'.get? b = h'.get? b := fun b hb => ge1 b (decide_eq_true hb)
    have gone : G'.get? e = none := ge2 e (by simp)
    have old : ∀ b o, g0.get? b = some o → G'.get? b = some o := fun b o q => (same b (Nat.ne_of_lt (Nat.lt_of_lt_of_le (Heap.lt_size q) M.big))).trans (M.keep b o q)
    have ob : ObjOk X.prog X.w (upd H1 d (.xd [(("machine" : Str), V.int i)])) G' d (.xd [(("machine" : Str), V.int i)]) := ⟨_, M.ns.at (fun o q => (same d M.dne).trans q), fun f => relO_one (v := V.int i) ⟨tk, rfl⟩ f⟩
    have J : Inv X pins σ (upd H1 d (.xd [(("machine" : Str), V.int i)])) ⟨G', gs, dr, t', os⟩ := I1.laid (t' := t') old M.dbig ob
    refine ⟨e, _, _, ⟨G', gs, dr, t', os⟩, _, .ref C, some d, rfl, J, fun b o q => ?_, gone, ho, ⟨rfl, rfl⟩, rfl, rfl, ?_, rfl, I1.bare, raises_own T.exC T.tyC, q1 d (I1.hok.fresh M.dbig)⟩
    · by_cases hb : b = e
      · have q' : G'.get? b = some o := q
        rw [hb, gone] at q'
        cases q'
      · exact (same b hb).symm.trans q
    · rw [upd_ne (Ne.symm M.dne)]
      exact I1.hok.fresh M.big
end Fs

set_option Elab.async false
set_option linter.all false
set_option maxRecDepth 100000
set_option maxHeartbeats 16000000
/-! programs: channels checked, and numbered -/
namespace Fs
open PySem L2 Evl FsE FsC FsR FsA FsD FsU FsK StX FsI
/-- a declared channel: name, seats, machine -/
abbrev ChR := Str × Int × Int
def ChAt (H : Hp) (v : V) (c : ChR) : Prop := ∃ t, v = .ref t ∧ H t = some (.tup [.str c.1, .int c.2.1, .int c.2.2])
theorem ChAt.ex {H H' : Hp} (e : Ex H H') {v : V} {c : ChR} (h : ChAt H v c) : ChAt H' v c := by
  obtain ⟨t, h1, h2⟩ := h
  exact ⟨t, h1, e _ _ h2⟩
inductive Fch where
  | term (f : Str)
  | mach (m : Int)
def fCh (ear : List Str) (mm : Int) (c : ChR) : Option Fch :=
  if (nameS c.1 && !decide (c.1 ∈ ear)) = true then (if seatsV (.int c.2.1) = true then (if (decide (0 ≤ c.2.2) && decide (c.2.2 < mm)) = true then none else some (.mach c.2.2)) else some (.term "seats")) else some (.term "name")
def fChs (mm : Int) : List Str → List ChR → Option Fch
  | _, [] => none
  | ear, c :: cs => match fCh ear mm c with
    | some f => some f
    | none => fChs mm (ear ++ [c.1]) cs
def fChans (mm : Int) (cs : List ChR) : Option Fch := if cs.length ≤ 8 then fChs mm [] cs else some (.term "channels")
def BadM (CM : Addr) (m : Int) (H : Hp) (E : XK) : Prop := ∀ (d : Addr) (H' : Hp), Ex H H' → H d = none → H' d = some (.xd [("machine", .int m)]) → E (.ref CM) (some d) H'
theorem BadM.ex {CM : Addr} {m : Int} {H H' : Hp} {E : XK} (e : Ex H H') (h : BadM CM m H E) : BadM CM m H' E := fun d H2 e2 hd h2 => h d H2 (e.trans e2) (fresh_back e hd) h2
def ChE (CB CM : Addr) (H : Hp) (E : XK) : Fch → Prop
  | .term f => Bad CB f H E
  | .mach m => BadM CM m H E
theorem ChE.ex {CB CM : Addr} {H H' : Hp} {E : XK} (e : Ex H H') : ∀ {f : Fch}, ChE CB CM H E f → ChE CB CM H' E f
  | .term _, h => Bad.ex e h
  | .mach _, h => BadM.ex e h
def ChOut (CB CM : Addr) (o : Option Fch) (H : Hp) (Q : VK) (E : XK) : Prop := (o = none → RetV .non H Q) ∧ ∀ f, o = some f → ChE CB CM H E f
theorem ChOut.ex {CB CM : Addr} {o : Option Fch} {H H' : Hp} {Q : VK} {E : XK} (e : Ex H H') (h : ChOut CB CM o H Q E) : ChOut CB CM o H' Q E := ⟨fun z H2 e2 => h.1 z H2 (e.trans e2), fun f z => (h.2 f z).ex e⟩
/-- the channels numbered for each machine -/
def cnt (cs : List ChR) (m : Int) : Nat := (cs.filter fun c => decide (c.2.2 = m)).length
def numsF : List ChR → List ChR → List (ChR × Nat)
  | _, [] => []
  | pre, c :: cs => (c, cnt pre c.2.2) :: numsF (pre ++ [c]) cs
theorem numsF_len : ∀ {pre cs : List ChR}, (numsF pre cs).length = cs.length
  | _, [] => rfl
  | pre, c :: cs => congrArg (· + 1) (numsF_len (pre := pre ++ [c]) (cs := cs))
theorem numsF_snoc : ∀ {pre cs : List ChR} {c : ChR}, numsF pre (cs ++ [c]) = numsF pre cs ++ [(c, cnt (pre ++ cs) c.2.2)]
  | pre, [], c => by
    show [(c, cnt pre c.2.2)] = [] ++ [(c, cnt (pre ++ []) c.2.2)]
    rw [List.append_nil]
    rfl
  | pre, d :: cs, c => by
    show (d, cnt pre d.2.2) :: numsF (pre ++ [d]) (cs ++ [c]) = (d, cnt pre d.2.2) :: (numsF (pre ++ [d]) cs ++ _)
    rw [numsF_snoc, List.append_assoc]
    rfl
def NumAt (H : Hp) (v : V) (e : ChR × Nat) : Prop := ∃ t, v = .ref t ∧ H t = some (.tup [.int e.1.2.2, .int (e.2 : Int), .int e.1.2.1])
theorem NumAt.ex {H H' : Hp} (e : Ex H H') {v : V} {c : ChR × Nat} (h : NumAt H v c) : NumAt H' v c := by
  obtain ⟨t, h1, h2⟩ := h
  exact ⟨t, h1, e _ _ h2⟩
structure NumT (H : Hp) (bvs : List (Key × V)) (cs : List ChR) : Prop where
  keys : bvs.map (·.1) = cs.map fun c => Sum.inr c.1
  vals : LsA NumAt H (bvs.map (·.2)) (numsF [] cs)
section
variable {P : Program} {w : World} {K : PySem.W.Frag} {mg : Str → Option Value} {base : Heap} {C CB CK CN CD CW CE CM N : Addr}
/-- check_channels -/
def spChs (CB CM : Addr) : Sp := fun vs H Q E => ∃ (l : Addr) (mm : Int) (xs : List V) (cs : List ChR), vs = [.ref l, .int mm] ∧ H l = some (.lst xs) ∧ LsA ChAt H xs cs ∧ (∀ c ∈ cs, c.1.length ≤ 40000) ∧ cs.length ≤ 1000 ∧ ChOut CB CM (fChans mm cs) H Q E
abbrev nsChs : List Str := ["channels", "machines", "earlier", "name", "seats", "machine"]
theorem scChs : FnScope nsChs ["channels", "machines"] (defScope (topS 47)) := ⟨rfl, rfl, rfl, by decide +kernel, rfl, by decide +kernel, by decide +kernel⟩
theorem fChs_app {mm : Int} : ∀ {xs ys : List ChR} {ear : List Str}, fChs mm ear xs = none → fChs mm ear (xs ++ ys) = fChs mm (ear ++ xs.map (·.1)) ys
  | [], ys, ear, _ => by rw [List.map_nil, List.append_nil, List.nil_append]
  | x :: xs, ys, ear, h => by
    show (match fCh ear mm x with | some f => some f | none => fChs mm (ear ++ [x.1]) (xs ++ ys)) = _
    have h' : (match fCh ear mm x with | some f => some f | none => fChs mm (ear ++ [x.1]) xs) = none := h
    cases hx : fCh ear mm x with
    | some f =>
      rw [hx] at h'
      cases h'
    | none =>
      rw [hx] at h'
      rw [fChs_app (ear := ear ++ [x.1]) h', List.append_assoc]
      rfl
theorem ok_chs {f : Addr} {fd : FuncData} {k : Nat} (hk : 2 ≤ k) (F : Fun K "check_channels" "check_channels" (topS 47) f fd) (hlen : mg "len" = none) (most : GC mg "MOST_CHANNELS" (.int 8)) (GD : CalX P w K mg base (L2.CX P w) k "demand" (spDemand CB)) (GN : CalX P w K mg base CX0 1 "is_name" (spPred nameV)) (GS : CalX P w K mg base CX0 2 "is_seats" (spPred seatsV)) (GI : CalX P w K mg base CX0 1 "is_int" (spPred intV)) (R : RaisesI P w K mg base "NoMachine" CM "machine" k) :
    FnOk P w K mg base (L2.CX P w) (k + 1) f fd ["channels", "machines"] (spChs CB CM) := by
  refine F.okX scChs (fun vs H Q E h => ?_) (fun cdv A outer s H vs Q E hr h => ?_)
  · obtain ⟨l, mm, xs, cs, rfl, _⟩ := h
    rfl
  · obtain ⟨l, mm, xs, cs, rfl, hl, hxs, hsh, hcs, q⟩ := h
    refine ⟨_, pss_cons (ps_expr (pe_cx (E := WE (fun cls d _ H => E cls d H)) GD hr (Nat.le_refl _) (by rfl) (fun σ => passAt (takes_of rfl rfl rfl rfl) σ) (pa_cons (pe_cmpR op_le (pe_callB call_len_seq (by rfl) hlen PySem.boot_len (pa_cons (pv 0) pa_nil)) (C8.pe_gc (by rfl) most) (nomark _)) (pa_cons pe_str pa_nil))))
      (pss_cons (ps_set (i := 2) scChs.nd rfl (Or.inl rfl) (pe_lst pa_nil))
      (pss_one (ps_for (passes_of rfl) rfl (pi_list (pv 0)) (pg_tup rfl (pgs_cons (pg_name (i := 3) scChs.nd rfl (.inl rfl)) (pgs_cons (pg_name (i := 4) scChs.nd rfl (.inl rfl)) (pgs_cons (pg_name (i := 5) scChs.nd rfl (.inl rfl)) pgs_nil))))
        (pss_cons (ps_expr (pe_cx (E := WE (fun cls d _ H => E cls d H)) GD hr (Nat.le_refl _) (by rfl) (fun σ => passAt (takes_of rfl rfl rfl rfl) σ) (pa_cons (pe_and (pe_cx (E := fun _ => E0) GN hr (by omega) (by rfl) at0 (pa_cons (pv 3) pa_nil)) (pe_one (pe_cmpR op_notIn_seq (pv 3) (pv 2) (by rfl)))) (pa_cons pe_str pa_nil))))
        (pss_cons (ps_expr (pe_cx (E := WE (fun cls d _ H => E cls d H)) GD hr (Nat.le_refl _) (by rfl) (fun σ => passAt (takes_of rfl rfl rfl rfl) σ) (pa_cons (pe_cx (E := fun _ => E0) GS hr (by omega) (by rfl) at0 (pa_cons (pv 4) pa_nil)) (pa_cons pe_str pa_nil))))
        (pss_cons (ps_if (PW.pt (pw_or (pt_not (pt_val (pe_cx (E := fun _ => E0) GI hr (by omega) (by rfl) at0 (pa_cons (pv 5) pa_nil)))) (pw_or1 (pt_not (pt_chain op_le op_lt pe_int (pv 5) (pv 1)))))) (pss_one (ps_raise (W := fun cls d _ H => E cls d H) rfl (takes_of rfl rfl rfl rfl) (R _ rfl rfl rfl rfl rfl hr _ _ _ _ (pa_cons (pv 5) pa_nil) (by rfl) (by rfl) (by rfl)))) pss_nil)
        (pss_one (ps_expr (pe_bm PySem.F.plainAttrs_list PySem.F.slot_list_append PySem.F.type_list_append mt_append (pv 2) (pa_cons (pv 3) pa_nil)))))))))), ?_⟩
    have hlx := hxs.length
    refine q_demand (b := decide ((cs.length : Int) ≤ 8)) (by decide +kernel) (ev_is (ev_op (x := .int (cs.length : Int)) (ev_is (ev_lenQ (K := K) (ev_var rfl) (.inl (sq_of hl))) (by rw [hlx])) ev_c rv_I0) rfl) (fun hb H1 e1 => ?_) (fun hb => ?_)
    · have h8 : cs.length ≤ 8 := by have := of_decide_eq_true hb; omega
      have ef : fChans mm cs = fChs mm [] cs := by unfold fChans; rw [if_pos h8]
      rw [ef] at q
      refine q_asgL (xs := []) (el_lst ea_nil (by decide)) (fun el H2 hel e2 h2 => ?_)
      have hel0 : H el = none := fresh_back e1 hel
      refine s_forL (K := K) (xs := xs) (ev_var rfl) (sq_of ((e1.trans e2) _ _ hl)) (fun i σ' H' => ∃ v3 v4 v5 : Option V, σ' = [some (.ref l), some (.int mm), some (.ref el), v3, v4, v5] ∧ Ex H H' ∧ H' el = some (.lst (((cs.take i).map (·.1)).map V.str)) ∧ fChs mm [] (cs.take i) = none) (fun H3 e3 => ⟨_, _, _, rfl, (e1.trans e2).trans e3, e3 _ _ h2, rfl⟩) (fun i σ' H' _ ⟨_, _, _, _, e, _⟩ => sq_of (e _ _ hl)) (fun i x σ' H' hx ⟨v3, v4, v5, hσ, e, hear, h0⟩ => ?_) (fun σ' H' ⟨v3, v4, v5, hσ, e, hear, h0⟩ => ?_)
      · subst hσ
        obtain ⟨c, hc, t, rfl, ht⟩ := hxs.get hx
        obtain ⟨nm, sts, mch⟩ := c
        have hi := (List.getElem?_eq_some_iff.mp hc).1
        have hmem := List.mem_of_getElem? hc
        have split : fChs mm [] cs = (match fCh ((cs.take i).map (·.1)) mm (nm, sts, mch) with | some f => some f | none => fChs mm (((cs.take i).map (·.1)) ++ [nm]) (cs.drop (i + 1))) := by
          conv => lhs; rw [← List.take_append_drop i cs, List.drop_eq_getElem_cons hi, (List.getElem?_eq_some_iff.mp hc).2]
          rw [fChs_app h0, List.nil_append]
          rfl
        have nextE : fCh ((cs.take i).map (·.1)) mm (nm, sts, mch) = none → fChs mm [] (cs.take (i + 1)) = none := fun hn => by
          rw [List.take_add_one, hc]
          show fChs mm [] (cs.take i ++ [(nm, sts, mch)]) = none
          rw [fChs_app h0, List.nil_append]
          show (match fCh ((cs.take i).map (·.1)) mm (nm, sts, mch) with | some f => some f | none => none) = none
          rw [hn]
        have bad : ∀ f, fCh ((cs.take i).map (·.1)) mm (nm, sts, mch) = some f → ChE CB CM H E f := fun f hf => q.2 f (by rw [split, hf])
        refine unp3 (e _ _ ht) [some (.ref l), some (.int mm), some (.ref el), some (.str nm), some (.int sts), some (.int mch)] rfl ?_
        refine q_demand (b := nameS nm && !decide (nm ∈ (cs.take i).map (·.1))) (by decide +kernel) (ev_andV (ev_cx (ea_cons (ev_var rfl) ea_nil) (sp_pred (f := nameV) (v := .str nm) (hsh _ hmem))) (fun _ => ev_is (ev_op (ev_var rfl) (ev_var rfl) (rv_niL (sq_of hear) rfl flat_zs)) (by rw [inV_zs]))) (fun hb1 H3 e3 => ?_) (fun hb1 => ?_)
        · refine q_demand (b := seatsV (.int sts)) (by decide +kernel) (ev_cx (ea_cons (ev_var rfl) ea_nil) (sp_pred (f := seatsV) (v := .int sts) True.intro)) (fun hb2 H4 e4 => ?_) (fun hb2 => ?_)
          · have x4 := (e.trans e3).trans e4
            refine q_when (b := !(decide (0 ≤ mch) && decide (mch < mm))) (et_is (et_or (a := false) (b := !(decide (0 ≤ mch) && decide (mch < mm))) (et_is (et_not (et_B (ev_cx (ea_cons (ev_var rfl) ea_nil) (sp_pred (f := intV) (v := .int mch) True.intro)))) rfl) (fun _ => et_not (et_test (ev_chain ev_c (ev_var rfl) rv_I0 (fun _ => ev_var rfl) (fun _ => rv_I0))))) (by rw [Bool.false_or])) (fun hb3 H5 e5 => ?_) (fun hb3 H5 e5 => ?_)
            · have hb3' : (decide (0 ≤ mch) && decide (mch < mm)) = false := by
                cases hq : (decide (0 ≤ mch) && decide (mch < mm)) with
                | false => rfl
                | true =>
                  rw [hq] at hb3
                  cases hb3
              have bm : BadM CM mch H E := bad (.mach mch) (by unfold fCh; rw [if_pos hb1, if_pos hb2, if_neg (by show ¬ ((decide (0 ≤ mch) && decide (mch < mm)) = true); rw [hb3']; decide)])
              have x5 := x4.trans e5
              exact ⟨_, rfl, mch, rfl, fun d' hd' => bm d' _ (x5.trans (Ex.new hd')) (fresh_back x5 hd') upd_same⟩
            · have hb3' : (decide (0 ≤ mch) && decide (mch < mm)) = true := by
                cases hq : (decide (0 ≤ mch) && decide (mch < mm)) with
                | true => rfl
                | false =>
                  rw [hq] at hb3
                  cases hb3
              have hn : fCh ((cs.take i).map (·.1)) mm (nm, sts, mch) = none := by unfold fCh; rw [if_pos hb1, if_pos hb2, if_pos hb3']
              have x35 := (e3.trans e4).trans e5
              refine s_app (xs := ((cs.take i).map (·.1)).map V.str) (v := .str nm) (x35 _ _ hear) (ev_var rfl) (ev_var rfl) (by rw [List.length_map, List.length_map, List.length_take]; omega) (fun H6 e6 => ?_)
              refine ⟨_, _, _, rfl, Ex.mut (((x4.trans e5).trans e6)) hel0, ?_, nextE hn⟩
              rw [upd_same, List.take_add_one, hc, List.map_append, List.map_append]
              rfl
          · have bt : Bad CB "seats" H E := bad (.term "seats") (by unfold fCh; rw [if_pos hb1, if_neg (by show ¬ (seatsV (.int sts) = true); rw [hb2]; decide)])
            exact Bad.ex (e.trans e3) bt
        · have bt : Bad CB "name" H E := bad (.term "name") (by unfold fCh; rw [if_neg (by show ¬ ((nameS nm && !decide (nm ∈ (cs.take i).map (·.1))) = true); rw [hb1]; decide)])
          exact Bad.ex e bt
      · subst hσ
        rw [hlx, List.take_length] at h0
        exact q.1 h0 H' e
    · have h8 : ¬ cs.length ≤ 8 := by have := of_decide_eq_false hb; omega
      exact q.2 (.term "channels") (by unfold fChans; rw [if_neg h8])
end
end Fs

set_option Elab.async false
set_option linter.all false
set_option maxRecDepth 100000
set_option maxHeartbeats 16000000
/-! programs: channels numbered, a book joined to none -/
namespace Fs
open PySem L2 Evl FsE FsC FsR FsA FsD FsU FsK StX FsI
theorem cnt_snoc {cs : List ChR} {c : ChR} {m : Int} : cnt (cs ++ [c]) m = if c.2.2 = m then cnt cs m + 1 else cnt cs m := by
  unfold cnt
  rw [List.filter_append, List.length_append]
  by_cases h : c.2.2 = m
  · rw [if_pos h, List.filter_cons, if_pos (decide_eq_true h)]
    rfl
  · rw [if_neg h, List.filter_cons, if_neg (by rw [decide_eq_false h]; decide)]
    rfl
theorem cnt_le {cs : List ChR} {m : Int} : cnt cs m ≤ cs.length := List.length_filter_le _ _
theorem valV_key {k : Key} {kvs : List (Key × V)} (h : k ∉ kvs.map (·.1)) : valV kvs k = none := by
  cases q : valV kvs k with
  | none => rfl
  | some v => exact absurd (valV_in q) h
theorem putK_le {k : Key} {v : V} {kvs : List (Key × V)} : (putK kvs k v).length ≤ kvs.length + 1 := by
  unfold putK
  split
  · rw [List.length_map]
    omega
  · rw [List.length_append]
    exact Nat.le_refl _
section
variable {P : Program} {w : World} {K : PySem.W.Frag} {mg : Str → Option Value} {base : Heap} {C CB CK CN CD CW CE CM N : Addr}
def spNum : Sp := fun vs H Q _ => ∃ (l : Addr) (xs : List V) (cs : List ChR), vs = [.ref l] ∧ H l = some (.lst xs) ∧ LsA ChAt H xs cs ∧ cs.length ≤ 1000 ∧ (cs.map (·.1)).Nodup ∧ ∀ p bvs H', H p = none → Ex H H' → H' p = some (.dK bvs) → NumT H' bvs cs → Q (.ref p) H'
abbrev nsNum : List Str := ["channels", "by_name", "created", "name", "seats", "machine", "number"]
theorem scNum : FnScope nsNum ["channels"] (defScope (topS 48)) := ⟨rfl, rfl, rfl, by decide +kernel, rfl, by decide +kernel, by decide +kernel⟩
theorem NumT.ex {H H' : Hp} (e : Ex H H') {bvs : List (Key × V)} {cs : List ChR} (h : NumT H bvs cs) : NumT H' bvs cs := ⟨h.keys, h.vals.imp fun _ _ z => z.ex e⟩
theorem NumT.updD {H : Hp} {bvs kvs : List (Key × V)} {cs : List ChR} {d : Addr} {o : HO} (h : NumT H bvs cs) (hd : H d = some (.dK kvs)) : NumT (upd H d o) bvs cs := ⟨h.keys, h.vals.imp fun _ _ ⟨t, h1, h2⟩ => ⟨t, h1, by
  rw [upd_ne (fun z => by rw [z, hd] at h2; cases h2)]
  exact h2⟩⟩
theorem ok_num {f : Addr} {fd : FuncData} (F : Fun K "numbered_channels" "numbered_channels" (topS 48) f fd) : FnOk P w K mg base CX0 1 f fd ["channels"] spNum := by
  refine F.ok scNum (fun vs H Q E h => ?_) (fun cdv A outer s H vs Q E hr h => ?_)
  · obtain ⟨l, xs, cs, rfl, _⟩ := h
    rfl
  · obtain ⟨l, xs, cs, rfl, hl, hxs, hcs, hnd, q⟩ := h
    refine ⟨_, pss_cons (ps_set (i := 1) scNum.nd rfl (Or.inl rfl) pe_dnewK) (pss_cons (ps_set (i := 2) scNum.nd rfl (Or.inl rfl) pe_dnewK)
      (pss_cons (ps_for PassesOwn.never rfl (pi_list (pv 0)) (pg_tup rfl (pgs_cons (pg_name (i := 3) scNum.nd rfl (.inl rfl)) (pgs_cons (pg_name (i := 4) scNum.nd rfl (.inl rfl)) (pgs_cons (pg_name (i := 5) scNum.nd rfl (.inl rfl)) pgs_nil))))
        (pss_cons (ps_set (i := 6) scNum.nd rfl (Or.inl rfl) (pe_dget2 (hu_of hr) (pv 2) (pv 5) pe_int ⟨rfl, rfl, rfl, rfl⟩))
        (pss_cons (ps_dput (hu_of hr) (pv 1) (pv 3) (pe_tup (pa_cons (pv 5) (pa_cons (pv 6) (pa_cons (pv 4) pa_nil)))) rfl)
        (pss_one (ps_dput (hu_of hr) (pv 2) (pv 5) (pe_op op_add (pv 6) pe_int) rfl)))))
      (pss_one (ps_ret (pv 1))))), ?_⟩
    refine fun bd hbd => ?_
    refine fun cd hcd => ?_
    have hcd0 : H cd = none := fresh_back (Ex.new hbd) hcd
    have nbc : bd ≠ cd := fun z => by
      rw [← z, upd_same] at hcd
      cases hcd
    have x0 : Ex H (upd (upd H bd (.dK [])) cd (.dK [])) := (Ex.new hbd).trans (Ex.new hcd)
    have b0 : (upd (upd H bd (.dK [])) cd (.dK [])) bd = some (.dK []) := by rw [upd_ne nbc, upd_same]
    have c0 : (upd (upd H bd (.dK [])) cd (.dK [])) cd = some (.dK []) := upd_same
    generalize upd (upd H bd (.dK [])) cd (.dK []) = H0 at x0 b0 c0
    have hlx := hxs.length
    refine q_forL (K := K) (xs := xs) (ev_var rfl) (sq_of (x0 _ _ hl)) (fun i σ' H' => ∃ (v3 v4 v5 v6 : Option V) (bvs cvs : List (Key × V)), σ' = [some (.ref l), some (.ref bd), some (.ref cd), v3, v4, v5, v6] ∧ Ex H H' ∧ H' bd = some (.dK bvs) ∧ H' cd = some (.dK cvs) ∧ NumT H' bvs (cs.take i) ∧ cvs.length ≤ i ∧ ∀ m, valV cvs (.inl m) = if cnt (cs.take i) m = 0 then none else some (.int (cnt (cs.take i) m : Int)))
      (fun H1 e1 => ⟨_, _, _, _, [], [], rfl, x0.trans e1, e1 _ _ b0, e1 _ _ c0, ⟨rfl, trivial⟩, Nat.le_refl _, fun m => rfl⟩) (fun i σ' H' _ ⟨_, _, _, _, _, _, _, e, _⟩ => sq_of (e _ _ hl)) (fun i x σ' H' hx ⟨v3, v4, v5, v6, bvs, cvs, hσ, e, hb, hc, nt, hcl, hcv⟩ => ?_) (fun σ' H' ⟨v3, v4, v5, v6, bvs, cvs, hσ, e, hb, hc, nt, hcl, hcv⟩ => ?_)
    · subst hσ
      obtain ⟨c, hci, t, rfl, ht⟩ := hxs.get hx
      obtain ⟨nm, sts, mch⟩ := c
      have hi := (List.getElem?_eq_some_iff.mp hci).1
      refine unp3 (e _ _ ht) [some (.ref l), some (.ref bd), some (.ref cd), some (.str nm), some (.int sts), some (.int mch), v6] rfl ?_
      have hget : ((valV cvs (.inl mch)).getD (.int 0)) = .int (cnt (cs.take i) mch : Int) := by
        rw [hcv mch]
        by_cases h0 : cnt (cs.take i) mch = 0
        · rw [if_pos h0, h0]
          rfl
        · rw [if_neg h0]
          rfl
      refine ⟨_, rfl, cd, rfl, .inl ⟨cvs, .inl hc⟩, _, rfl, valV cvs (.inl mch), DGet.k (k := .inl mch) hc, ?_⟩
      rw [hget]
      have hnm : (Sum.inr nm : Key) ∉ bvs.map (·.1) := fun hm => by
        rw [nt.keys] at hm
        obtain ⟨c', hc', he⟩ := List.mem_map.mp hm
        have he : c'.1 = nm := Sum.inr.inj he
        obtain ⟨j, hj⟩ := List.mem_iff_getElem?.mp hc'
        have hji : j < i := by
          have := (List.getElem?_eq_some_iff.mp hj).1
          rw [List.length_take] at this
          omega
        rw [List.getElem?_take, if_pos hji] at hj
        have h1 : (cs.map (·.1))[j]? = some nm := by rw [List.getElem?_map, hj]; exact congrArg some he
        have h2 : (cs.map (·.1))[i]? = some nm := by rw [List.getElem?_map, hci]; rfl
        have := (List.getElem?_inj (List.getElem?_eq_some_iff.mp h1).1 hnd).mp (h1.trans h2.symm)
        omega
      have lb := congrArg List.length nt.keys
      rw [List.length_map, List.length_map, List.length_take] at lb
      refine ⟨_, rfl, _, rfl, _, rfl, by show 3 ≤ sizeLine; decide, fun tp htp => ⟨_, rfl, _, rfl, bd, _, rfl, DPut.k (k := .inr nm) ((Ex.new htp) _ _ hb) (sz_lt (by omega)), ?_⟩⟩
      have et : Ex H' (upd H' tp (.tup [.int mch, .int (cnt (cs.take i) mch : Int), .int sts])) := Ex.new htp
      have tpv : (upd H' tp (.tup [.int mch, .int (cnt (cs.take i) mch : Int), .int sts])) tp = some (.tup [.int mch, .int (cnt (cs.take i) mch : Int), .int sts]) := upd_same
      generalize upd H' tp (.tup [.int mch, .int (cnt (cs.take i) mch : Int), .int sts]) = H1 at et tpv
      have hb1 := et _ _ hb
      have nt1 : NumT (upd H1 bd (.dK (putK bvs (.inr nm) (.ref tp)))) (putK bvs (.inr nm) (.ref tp)) (cs.take (i + 1)) := by
        rw [putK_new _ (valV_key hnm), List.take_add_one, hci]
        refine NumT.updD (kvs := bvs) ⟨?_, ?_⟩ hb1
        · rw [List.map_append, List.map_append, nt.keys]
          rfl
        · rw [List.map_append]
          show LsA NumAt H1 _ (numsF [] (cs.take i ++ [(nm, sts, mch)]))
          rw [numsF_snoc, List.nil_append]
          exact (nt.ex et).vals.snoc ⟨tp, rfl, tpv⟩
      have x1 : Ex H (upd H1 bd (.dK (putK bvs (.inr nm) (.ref tp)))) := Ex.mut (e.trans et) hbd
      have b1 : (upd H1 bd (.dK (putK bvs (.inr nm) (.ref tp)))) bd = some (.dK (putK bvs (.inr nm) (.ref tp))) := upd_same
      have c1 : (upd H1 bd (.dK (putK bvs (.inr nm) (.ref tp)))) cd = some (.dK cvs) := by
        rw [upd_ne nbc.symm]
        exact et _ _ hc
      generalize upd H1 bd (.dK (putK bvs (.inr nm) (.ref tp))) = H2 at nt1 x1 b1 c1
      refine ⟨_, rfl, _, 1, rfl, rfl, _, rfl, _, rfl, cd, _, rfl, DPut.k (k := .inl mch) c1 (sz_lt (by omega)), ?_⟩
      refine ⟨_, _, _, _, _, _, rfl, Ex.mut x1 hcd0, by rw [upd_ne nbc]; exact b1, upd_same, nt1.updD c1, Nat.le_trans putK_le (Nat.succ_le_succ hcl), fun m => ?_⟩
      rw [valV_put, List.take_add_one, hci]
      show _ = if cnt (cs.take i ++ [(nm, sts, mch)]) m = 0 then (none : Option V) else some (V.int (cnt (cs.take i ++ [(nm, sts, mch)]) m : Int))
      rw [cnt_snoc]
      by_cases hm : mch = m
      · subst hm
        rw [if_pos rfl, if_pos rfl, if_neg (by omega)]
        rfl
      · rw [if_neg (fun y => hm (Sum.inl.inj y).symm), if_neg hm]
        exact hcv m
    · subst hσ
      rw [hlx, List.take_length] at nt
      exact s_ret (ev_var rfl) (fun H1 e1 => q bd bvs H1 hbd (e.trans e1) (e1 _ _ hb) (nt.ex e1))
/-- united, the first empty -/
def spUni0 : Sp := fun vs H Q _ => ∃ (a b : Addr) (wvs : List (Key × V)), vs = [.ref a, .ref b] ∧ H a = some (.dK []) ∧ H b = some (.dK wvs) ∧ (wvs.map (·.1)).Nodup ∧ wvs.length ≤ 12 ∧ ∀ r H', Ex H H' → H' r = some (.dK wvs) → Q (.ref r) H'
abbrev nsUni0 : List Str := ["one", "other", "clashes", "name"]
theorem scUni0 : FnScope nsUni0 ["one", "other"] (defScope (topS 28)) := ⟨rfl, rfl, rfl, by decide +kernel, rfl, by decide +kernel, by decide +kernel⟩
theorem ok_uni0 {f : Addr} {fd : FuncData} {k : Nat} (F : Fun K "united" "united" (topS 28) f fd) (GL : CalX P w K mg base (L2.CX P w) k "limited" (spLim CB)) : FnOk P w K mg base CX0 (k + 1) f fd ["one", "other"] spUni0 := by
  refine F.ok scUni0 (fun vs H Q E h => ?_) (fun cdv A outer s H vs Q E hr h => ?_)
  · obtain ⟨a, b, wvs, rfl, _⟩ := h
    rfl
  · obtain ⟨a, b, wvs, rfl, ha, hb, nd, hz, q⟩ := h
    refine ⟨_, pss_cons (ps_lock (ps_setLc (i := 2) (own := [("name", 3)]) (g := gName 3) (tt := tAnd (tB (tDIn (tVar 3) (tVar 1))) (tTest (tOp rNe (tDGet (tVar 0) (tVar 3)) (tDGet (tVar 1) (tVar 3))))) (te := tVar 3) rfl scUni0.nd rfl rfl (sw_true rfl rfl rfl (by decide +kernel)) (pi_keys (pv 0))
          (blkOk_by (own := [("name", 3)]) (N := nsUni0) (sc := defScope (topS 28)) (by decide +kernel))
          (fun _ _ _ _ _ => pg_name (i := 3) scUni0.nd rfl (Or.inl rfl)) (fun _ _ _ _ _ => pts_one (PW.pt (pw_and (pt_cmp (pc_din (hu_of hr) (pv 3) (pv 1))) (pw_and1 (pt_cmpR op_ne (pe_dget (hu_of hr) (pv 0) (pv 3) (fun _ _ => rfl)) (pe_dget (hu_of hr) (pv 1) (pv 3) (fun _ _ => rfl)) (nomark _))))))
          (fun _ _ _ _ _ => pv 3)))
      (pss_cons (ps_if (pt_truth (pv 2) (fun _ => rfl)) pss_never pss_nil)
      (pss_one (ps_ret (pe_cx (E := fun _ => E0) GL hr (Nat.le_refl _) (by rfl) (fun σ => passesAt_of passL σ) (pa_cons (pe_star2 (pv 0) (pv 1)) pa_nil))))), ?_⟩
    refine s_lockLc (D := _) (kvs := []) (xs := []) ha (fun od => ?_) (fun p H2 hp e2 h2 => ?_)
    · exact el_lcK (fun _ => true) (fun _ => V.non) (ev_var rfl) upd_same (by show 0 ≤ 40000; decide) (fun x => rfl) (fun i key u H1 e1 hk => nomatch hk) (fun i key u H1 e1 hk hf => nomatch hk)
    · dsimp only
      refine q_when (b := false) (et_truth (K := K) (xs := []) (ev_var rfl) h2) (fun y => nomatch y) (fun _ H3 e3 => ?_)
      have x3 := e2.trans e3
      refine fun d hd => ⟨_, rfl, a, [], rfl, ne_of_none (x3 _ _ ha) hd, upd_same, by rw [L2.upd_ne (ne_of_none (x3 _ _ ha) hd)]; exact x3 _ _ ha, by decide, ?_⟩
      refine ⟨_, rfl, b, wvs, rfl, ne_of_none (x3 _ _ hb) hd, upd_same, by rw [L2.upd_ne (ne_of_none (x3 _ _ hb) hd), L2.upd_ne (ne_of_none (x3 _ _ hb) hd)]; exact x3 _ _ hb, by omega, ?_⟩
      have em : mergeK (mergeK [] []) wvs = wvs := mergeK_nil nd
      rw [em]
      have x4 : ∀ o1 o2 o3 : HO, Ex H (upd (upd (upd H3 d o1) d o2) d o3) := fun o1 o2 o3 => Ex.mut (Ex.mut (Ex.mut x3 (fresh_back x3 hd)) (fresh_back x3 hd)) (fresh_back x3 hd)
      exact ⟨d, _, rfl, upd_same, fun _ H5 e5 => q d H5 ((x4 _ _ _).trans e5) (e5 _ _ upd_same), fun hl12 => absurd hl12 (by omega)⟩
/-- book | book, the first empty -/
def spOr0 (CK : Addr) : Sp := fun vs H Q _ => ∃ (a b : Addr) (wvs : List (Key × V)), vs = [.ref a, .ref b] ∧ BkAt CK H a [] ∧ BkAt CK H b wvs ∧ (wvs.map (·.1)).Nodup ∧ wvs.length ≤ 12 ∧ ∀ r H', H r = none → Ex H H' → BkAt CK H' r wvs → Q (.ref r) H'
theorem scOr0 : FnScope ["self", "other"] ["self", "other"] (defScope (inClass (topS 26) 8)) := ⟨rfl, rfl, rfl, by decide +kernel, rfl, by decide +kernel, by decide +kernel⟩
structure BkI (K : PySem.W.Frag) (CK : Addr) : Prop where
  ha : PySem.W.findIn K (.ref CK) "__class__" = some (some (.builtin "object.__class__"))
  hn : PySem.W.specialIn K (.builtin "object.__class__") "__get__" = some (some (.builtin "getset_descriptor.__get__"))
  htk : PySem.W.takesIn K (.builtin "object.__class__") = some true
  hm : PySem.W.mroIn K CK (.type "object") = some true
theorem tyx_bk (I : BkI K CK) (cl : Cls K CK) {H : Hp} {a dx : Addr} {fs : List (Str × V)} (h : H a = some (.ins CK dx fs)) : ∀ H1, Ex H H1 → TyX K H1 (.ref a) (.ref CK) := fun H1 e => .base (.ins (e _ _ h) cl I.ha I.hn I.htk I.hm)
theorem s_mkCall0 {σ : L2.St} {H : Hp} {D : Ends} {sp sp2 : Sp} {E : XK} {F : L2.St → XK} {C : Addr} {ta tb : TE} (h : ta σ H fun x H1 => tb σ H1 fun y H2 => sp2 [x, y] H2 (fun v H3 => ∀ a dx, H3 a = none → H3 dx = none → dx ≠ a → sp [.ref a, v] (upd (upd H3 dx (.own a)) a (.ins C dx [])) (fun z H4 => z = .non ∧ D.rt (.ref a) H4) E) (F σ)) : tRet (tMake C sp [] E (tCons (tCallS sp2 F (tCons ta (tCons tb tNil))) tNil)) D σ H := h
theorem own_ex0 {a dx : Addr} {H2 : Hp} {o : HO} (hx : H2 a = none) (hdx : H2 dx = none) : Ex H2 (upd (upd H2 dx (.own a)) a o) := by
  intro c o hc
  rw [upd_ne (ne_of_none hc hx), upd_ne (ne_of_none hc hdx)]
  exact hc
theorem ok_or0 {f : Addr} {fd : FuncData} {k : Nat} (hk : 2 ≤ k) (F : Fun K "__or__" "Book.__or__" (inClass (topS 26) 8) f fd) (hi : mg "isinstance" = none) (T : BkT K mg CK CB) (I : BkI K CK) (MB : MakX P w K mg base CX0 1 "Book" CK (spBkInit K CK)) (GU : CalX P w K mg base CX0 k "united" spUni0) :
    FnOk P w K mg base CX0 (k + 1) f fd ["self", "other"] (spOr0 CK) := by
  refine F.ok scOr0 (fun vs H Q E h => ?_) (fun cdv A outer s H vs Q E hr h => ?_)
  · obtain ⟨a, b, wvs, rfl, _⟩ := h
    rfl
  · obtain ⟨a, b, wvs, rfl, ⟨dx, d1, a1, a2⟩, ⟨dy, d2, b1, b2⟩, nd, hz, q⟩ := h
    refine ⟨_, pss_cons (ps_if (pt_not (pt_val (pe_callB (id := "isinstance") (r := rIsi K) call_isi (by rfl) hi (by decide +kernel) (pa_cons (pv 1) (pa_cons (pe_glob (v := .ref CK) (by rfl) T.mgK rfl) pa_nil))))) pss_never pss_nil)
      (pss_one (ps_ret (pe_mx (E := E0) MB hr (by omega) (by rfl) pass0 (pa_cons (pe_cx (E := fun _ => E0) GU hr (Nat.le_refl _) (by rfl) at0 (pa_cons (pe_fld (pv 0) rfl) (pa_cons (pe_fld (pv 1) rfl) pa_nil))) pa_nil)))), ?_⟩
    refine q_when (b := false) (et_is (et_not (et_B (ev_cb (ea_cons (ev_var rfl) (ea_cons ev_c ea_nil)) (rc_isiOwn (tyx_bk I T.cl b1) kOwn)))) rfl) (fun z => nomatch z) (fun _ H1 e1 => ?_)
    refine s_mkCall0 ?_
    refine ev_fld (ev_var rfl) (e1 _ _ a1) T.cl T.nB bk_lookup H1 (Ex.refl H1) _ fun H2 e2 => ev_fld (ev_var rfl) ((e1.trans e2) _ _ b1) T.cl T.nB bk_lookup H2 (Ex.refl H2) _ fun H3 e3 => ?_
    have x3 := (e1.trans e2).trans e3
    refine ⟨d1, d2, wvs, rfl, x3 _ _ a2, x3 _ _ b2, nd, hz, fun r H4 e4 h4 => ?_⟩
    intro x dz hx hdx hne
    refine ⟨x, dz, r, wvs, H4, rfl, upd_same, hx, own_ex0 hx hdx, .inr h4, fun H5 e5 h5 => ⟨rfl, ?_⟩⟩
    exact q x H5 (fresh_back (x3.trans e4) hx) ((x3.trans e4).trans e5) h5
end
end Fs

set_option Elab.async false
set_option linter.all false
set_option maxRecDepth 100000
set_option maxHeartbeats 16000000
/-! programs: made -/
namespace Fs
open PySem L2 Evl FsE FsC FsR FsA FsD FsU FsK StX FsI
theorem fstF_none : ∀ {xs : List (Option Flt)}, fstF xs = none → ∀ x ∈ xs, x = none
  | [], _, x, h => nomatch h
  | none :: xs, h, x, hx => by
    rcases List.mem_cons.mp hx with rfl | hx
    · rfl
    · exact fstF_none (xs := xs) h x hx
  | some f :: xs, h, x, hx => nomatch h
theorem orF_none2 {a b : Option Flt} (h : orF a b = none) : a = none ∧ b = none := by
  cases a with
  | none => exact ⟨rfl, h⟩
  | some f => cases h
theorem dcs_known {ds : Ds} : ∀ {p : Pr} {bs : List Str}, fPr ds bs p = none → ∀ y ∈ dcs p, ∃ d, lkD ds y = some d
  | .choice _, _, _, y, hy => nomatch hy
  | .new n k r, bs, h, y, hy => by
    rw [fPr] at h
    exact dcs_known h y hy
  | .cond l r yp np, bs, h, y, hy => by
    rw [fPr] at h
    obtain ⟨_, h⟩ := orF_none2 h
    obtain ⟨h1, h2⟩ := orF_none2 h
    rcases List.mem_append.mp hy with hy | hy
    · exact dcs_known h1 y hy
    · exact dcs_known h2 y hy
  | .call z ops, bs, h, y, hy => by
    rw [fPr] at h
    have hyz : y = z := List.mem_singleton.mp hy
    unfold fCall at h
    cases q : lkD ds z with
    | none =>
      rw [q] at h
      cases h
    | some d =>
      rw [hyz, q]
      exact ⟨d, rfl⟩
theorem edOf_lookup {z : Str} : ∀ {ds : Ds}, (edOf ds).lookup z = (lkD ds z).map fun d => dcs d.2
  | [] => rfl
  | x :: ds => by
    show List.lookup z ((x.1, dcs x.2.2) :: edOf ds) = (List.lookup z (x :: ds)).map _
    rw [List.lookup_cons, List.lookup_cons]
    by_cases hz : z = x.1
    · rw [show (z == x.1) = true from beq_iff_eq.mpr hz]
      rfl
    · rw [show (z == x.1) = false from beq_eq_false_iff_ne.mpr hz]
      exact edOf_lookup
theorem closed_of {cn : List Str} {ds : Ds} {ps : List Pr} (h : NmOut cn ds ps none) : Closed (edOf ds) := by
  obtain ⟨ys, hp, _, ho⟩ := h
  obtain ⟨h1, _⟩ := orF_none2 ho.symm
  intro x y ⟨l, hl, hy⟩
  rw [edOf_lookup] at hl
  cases q : lkD ds x with
  | none =>
    rw [q] at hl
    cases hl
  | some d =>
    rw [q] at hl
    cases hl
    have hm : x ∈ ys := hp.symm.subset (List.mem_map.mpr ⟨_, lkD_mem q, rfl⟩)
    have := fstF_none h1 _ (List.mem_map.mpr ⟨x, hm, rfl⟩)
    unfold fDf at this
    rw [q] at this
    obtain ⟨d', hd'⟩ := dcs_known this y hy
    rw [edOf_keys]
    exact List.mem_map.mpr ⟨_, lkD_mem hd', rfl⟩
/-- the fault of a program, if there is one -/
inductive Fpg where
  | ch (f : Fch)
  | nm (f : Flt)
  | ends (z : Str)
def PgOut (cs : List ChR) (ds : Ds) (ps : List Pr) (o : Option Fpg) : Prop :=
  (ps = [] ∧ o = some (.ch (.term "machines"))) ∨ (ps ≠ [] ∧ ∃ f, fChans ps.length cs = some f ∧ o = some (.ch f)) ∨ (ps ≠ [] ∧ fChans ps.length cs = none ∧ ∃ f, NmOut (cs.map (·.1)) ds ps (some f) ∧ o = some (.nm f)) ∨
  (ps ≠ [] ∧ fChans ps.length cs = none ∧ NmOut (cs.map (·.1)) ds ps none ∧ ∃ z, EndOut ds (some z) ∧ o = some (.ends z)) ∨ (ps ≠ [] ∧ fChans ps.length cs = none ∧ NmOut (cs.map (·.1)) ds ps none ∧ EndOut ds none ∧ o = none)
def PgE (CB CM CN CW CE : Addr) (H : Hp) (E : XK) : Fpg → Prop
  | .ch f => ChE CB CM H E f
  | .nm f => FltE CN CW H E f
  | .ends z => BadF CE "name" z H E
def pgF (m : Int) (tc d b n : Addr) : List (Str × V) := putF "net" (.ref n) (putF "book" (.ref b) (putF "by_channel_name" (.ref d) (putF "channels" (.ref tc) (putF "machines" (.int m) []))))
def PgAt (CP CK CD C N : Addr) (H : Hp) (a : Addr) (cs : List ChR) (ds : Ds) (ps : List Pr) : Prop := ∃ dx tc d b' n' xs bvs, H a = some (.ins CP dx (pgF ps.length tc d b' n')) ∧ H tc = some (.tup xs) ∧ LsA ChAt H xs cs ∧ H d = some (.dK bvs) ∧ NumT H bvs cs ∧ BkP CK CD C H b' ds ∧ NtQ N C H n' ps
theorem PgAt.ex {CP CK CD C N : Addr} {H H' : Hp} {a : Addr} {cs : List ChR} {ds : Ds} {ps : List Pr} (e : Ex H H') (h : PgAt CP CK CD C N H a cs ds ps) : PgAt CP CK CD C N H' a cs ds ps := by
  obtain ⟨dx, tc, d, b', n', xs, bvs, h1, h2, h3, h4, h5, h6, h7⟩ := h
  exact ⟨dx, tc, d, b', n', xs, bvs, e _ _ h1, e _ _ h2, h3.imp fun _ _ z => z.ex e, e _ _ h4, h5.ex e, h6.ex e, h7.ex e⟩
structure PgT (K : PySem.W.Frag) (mg : Str → Option Value) (CP : Addr) : Prop where
  cl : Cls K CP
  nM : NoAttr K CP "machines"
  nC : NoAttr K CP "channels"
  nD : NoAttr K CP "by_channel_name"
  nB : NoAttr K CP "book"
  nN : NoAttr K CP "net"
  len : mg "len" = none
  tuple : mg "tuple" = none
  list : mg "list" = none
section
variable {σ : L2.St} {H : Hp} {te tl t2 tv : TE} {tz tu : TS} {D : Ends} {K : PySem.W.Frag} {sp : Sp} {F : L2.St → XK} {x y z : V} {i j : Nat} {a C dx : Addr} {fs : List (Str × V)} {f : Str} {Pv : V → Hp → Prop}
theorem q_callE2 (s1 : σ[i]? = some (some x)) (h : Ev t2 σ H y) (k : ∀ H1, Ex H H1 → sp [x, y] H1 (fun _ H2 => tz D σ H2) (F σ)) : tSeq (tDrop (tCallS sp F (tCons (tVar i) (tCons t2 tNil)))) tz D σ H := ⟨x, s1, h H (Ex.refl H) _ fun H1 e1 => k H1 e1⟩
theorem q_callL3 {xs : List V} (h : EvL tl σ H xs) (s1 : σ[i]? = some (some x)) (s2 : σ[j]? = some (some y)) (k : ∀ l H1, Ex H H1 → H1 l = some (.lst xs) → sp [.ref l, x, y] H1 (fun _ H2 => tz D σ H2) (F σ)) : tSeq (tDrop (tCallS sp F (tCons tl (tCons (tVar i) (tCons (tVar j) tNil))))) tz D σ H :=
  h H (Ex.refl H) _ fun l H1 _ e1 h1 => ⟨x, s1, y, s2, k l H1 e1 h1⟩
theorem q_call1 (s1 : σ[i]? = some (some x)) (k : sp [x] H (fun _ H2 => tz D σ H2) (F σ)) : tSeq (tDrop (tCallS sp F (tCons (tVar i) tNil))) tz D σ H := ⟨x, s1, k⟩
theorem q_fldS (h : EvS tv σ H Pv) (s0 : σ[i]? = some (some (.ref a))) (hi : H a = some (.ins C dx fs)) (cl : Cls K C) (n : NoAttr K C f) (hl : fs.length < 1000) (k : ∀ v H1, Ex H H1 → Pv v H1 → tz D σ (upd H1 a (.ins C dx (putF f v fs)))) : tSeq (sFld K (tVar i) tv f) tz D σ H :=
  h H (Ex.refl H) _ fun v H1 e hv => ⟨_, s0, a, C, dx, fs, rfl, e _ _ hi, cl, n, hl, k v H1 e hv⟩
theorem s_fldS (h : EvS tv σ H Pv) (s0 : σ[i]? = some (some (.ref a))) (hi : H a = some (.ins C dx fs)) (cl : Cls K C) (n : NoAttr K C f) (hl : fs.length < 1000) (k : ∀ v H1, Ex H H1 → Pv v H1 → D.nx σ (upd H1 a (.ins C dx (putF f v fs)))) : sFld K (tVar i) tv f D σ H :=
  h H (Ex.refl H) _ fun v H1 e hv => ⟨_, s0, a, C, dx, fs, rfl, e _ _ hi, cl, n, hl, k v H1 e hv⟩
/-- [name for name, seats, machine in (a list of channels)] -/
theorem el_lcN {l : Addr} {xs : List V} {cs : List ChR} {i1 i2 i3 : Nat} {vs : List Nat} (h : Ev tl σ H (.ref l)) (hl : H l = some (.lst xs)) (hxs : LsA ChAt H xs cs) (hz : cs.length ≤ 40000) (hw : ∀ x1 x2 x3, wipe ((((wipe σ vs).set i1 (some x1)).set i2 (some x2)).set i3 (some x3)) vs = wipe σ vs)
    (he : ∀ x1 x2 x3 H1, Ev te ((((wipe σ vs).set i1 (some x1)).set i2 (some x2)).set i3 (some x3)) H1 x1) : EvL (tLc (iList K tl) (gTup K 3 (gCons (gName i1) (gCons (gName i2) (gCons (gName i3) gNil)))) tYes te vs) σ H (cs.map fun c => V.str c.1) := by
  have hlx := hxs.length
  have g : EvL (tLc (iList K tl) (gTup K 3 (gCons (gName i1) (gCons (gName i2) (gCons (gName i3) gNil)))) tYes te vs) σ H (given xs.length (fun _ => true) fun i => (cs.map fun c => V.str c.1).getD i .non) := fun H0 e Q q => h H0 e _ fun H1 e1 => ⟨l, rfl, ⟨xs, sq_of ((e.trans e1) _ _ hl)⟩, fun Dl hD =>
    lc_list (xs := xs) (Cw H1 (fun _ => true) (fun i => (cs.map fun c => V.str c.1).getD i .non) Dl) ⟨hD, Ex.new hD, upd_same⟩ (fun i H' _ p => sq_of (((e.trans e1).trans p.2.1) _ _ hl)) (fun i x H' hi p => by
      obtain ⟨c, hc, t, rfl, ht⟩ := hxs.get hi
      have hil := (List.getElem?_eq_some_iff.mp hi).1
      have hv : (cs.map fun c => V.str c.1).getD i .non = .str c.1 := by rw [List.getD_eq_getElem?_getD, List.getElem?_map, hc]; rfl
      refine unp3 ((e.trans (e1.trans p.2.1)) _ _ ht) _ rfl ?_
      refine ⟨hw _ _ _, cw_turn p (by omega) et_nil (fun _ => ?_)⟩
      rw [hv]
      exact he _ _ _ H1) (fun H' p => q Dl H' (fresh_back e1 p.1) (e1.trans p.2.1) p.2.2)⟩
  rw [given_all, hlx] at g
  have e := range_map (cs.map fun c => V.str c.1) .non (fun y => y)
  rw [List.map_id', List.length_map] at e
  rw [e] at g
  exact g
end
end Fs

set_option Elab.async false
set_option linter.all false
set_option maxRecDepth 100000
set_option maxHeartbeats 16000000
/-! programs: __init__ -/
namespace Fs
open PySem L2 Evl FsE FsC FsR FsA FsD FsU FsK StX FsI
theorem fChs_nd {mm : Int} : ∀ {cs : List ChR} {ear : List Str}, fChs mm ear cs = none → (∀ z ∈ cs.map (·.1), z ∉ ear) ∧ (cs.map (·.1)).Nodup
  | [], ear, _ => ⟨(fun z h => nomatch h), .nil⟩
  | c :: cs, ear, h => by
    have h' : (match fCh ear mm c with | some f => some f | none => fChs mm (ear ++ [c.1]) cs) = none := h
    cases hc : fCh ear mm c with
    | some f =>
      rw [hc] at h'
      cases h'
    | none =>
      rw [hc] at h'
      obtain ⟨h1, h2⟩ := fChs_nd (ear := ear ++ [c.1]) h'
      have hne : c.1 ∉ ear := fun hm => by
        unfold fCh at hc
        rw [if_neg (by rw [decide_eq_true hm]; simp)] at hc
        cases hc
      refine ⟨fun z hz => ?_, List.nodup_cons.mpr ⟨fun hm => h1 c.1 hm (List.mem_append_right _ (List.mem_singleton.mpr rfl)), h2⟩⟩
      rcases List.mem_cons.mp hz with rfl | hz
      · exact hne
      · exact fun hm => h1 z hz (List.mem_append_left _ hm)
section
variable {P : Program} {w : World} {K : PySem.W.Frag} {mg : Str → Option Value} {base : Heap} {C CB CK CN CD CW CE CM CP N t0 : Addr}
/-- len(net) -/
theorem ev_lenNt {σ : L2.St} {H : Hp} {te : TE} {n t : Addr} {xs : List V} (h : Ev te σ H (.ref n)) (hv : NtV N H n t) (ht : H t = some (.tup xs)) (hz : xs.length ≤ 1000) : Ev (tCB (rLenO N (spLnT (NtR N) K) E0) (tCons te tNil)) σ H (.int (xs.length : Int)) := fun H1 e Q q =>
  h H1 e _ fun H2 e2 => by
    obtain ⟨dx, h1⟩ := hv
    have x2 := e.trans e2
    exact ⟨n, dx, _, rfl, x2 _ _ h1, n, t, xs, rfl, ⟨⟨dx, x2 _ _ h1⟩, xs, x2 _ _ ht⟩, st_of (x2 _ _ ht), fun H4 e4 => ⟨xs.length, rfl, by omega, q H4 (e2.trans e4)⟩⟩
def spPgI (CP CK CD C N CB CM CN CW CE : Addr) : Sp := fun vs H Q E => ∃ (a l b n dx : Addr) (xs : List V) (cs : List ChR) (ds : Ds) (ps : List Pr) (H0 : Hp), vs = [.ref a, .ref l, .ref b, .ref n] ∧ H a = some (.ins CP dx []) ∧ H0 a = none ∧ Ex H0 H ∧ H0 l = some (.lst xs) ∧ LsA ChAt H0 xs cs ∧ (∀ c ∈ cs, c.1.length ≤ 1000) ∧ cs.length ≤ 1000 ∧ BkP CK CD C H0 b ds ∧ NtQ N C H0 n ps ∧ (∀ p ∈ ps, p.depth ≤ 20 ∧ p.sh) ∧ ps.length ≤ 6 ∧
  ∀ o, PgOut cs ds ps o → (o = none → ∀ H', Ex H0 H' → PgAt CP CK CD C N H' a cs ds ps → Q .non H') ∧ ∀ f, o = some f → PgE CB CM CN CW CE H0 E f
abbrev nsPgI : List Str := ["self", "channels", "book", "net", "name", "seats", "machine"]
theorem scPgI : FnScope nsPgI ["self", "channels", "book", "net"] (defScope (inClass (topS 46) 0)) := ⟨rfl, rfl, rfl, by decide +kernel, rfl, by decide +kernel, by decide +kernel⟩
/-- what the text has told of the calls -/
structure PgC (P : Program) (w : World) (K : PySem.W.Frag) (mg : Str → Option Value) (base : Heap) (C CB CK CN CD CW CE CM N : Addr) (k : Nat) : Prop where
  dem : CalX P w K mg base (L2.CX P w) k "demand" (spDemand CB)
  chs : CalX P w K mg base (L2.CX P w) k "check_channels" (spChs CB CM)
  nms : CalX P w K mg base (L2.CX P w) k "check_names" (spChkN CK CD C N CN CW)
  ends : CalX P w K mg base (L2.CX P w) k "check_ends" (spEnds CK CD C CE)
  num : CalX P w K mg base CX0 1 "numbered_channels" spNum
  net : MakX P w K mg base CX0 3 "Net" N (spNt0 K N)
  hk : 5 ≤ k
structure MkB0 (P : Program) (w : World) (K : PySem.W.Frag) (mg : Str → Option Value) (base : Heap) (CK t0 : Addr) : Prop where
  ex : ∃ (f : Addr) (fd : FuncData), Mk K CK f ∧ FnOk P w K mg base CX0 1 f fd ["self", "given"] (spBkInit K CK) ∧ mg "Book" = some (.ref CK) ∧ Binds K fd ["self", "given"] [.ref t0]
  t0 : Tup0 K t0
theorem pe_bk0 {X : Cx} {CK t0 : Addr} {j : Nat} {E : XK} {p pos : Pos} (c : MkB0 X.prog X.w X.K X.mg X.base CK t0) (hr : Room j X.A) (hk : 2 ≤ j) (hg : Gl X "Book") (hx : Passes CX0 X E) :
    PE X (.Call (.Name "Book" p) [] [] pos) (tMake CK (spBkInit X.K CK) [.ref t0] E tNil) := by
  obtain ⟨f, fd, M, F, hm, b⟩ := c.ex
  exact pe_make0 M F (hr.mono hk) hg hm b (.cons rfl .nil) hx
theorem ok_pgI {f fl fo fi : Addr} {fd fdl fdo di : FuncData} {k : Nat} (F : Fun K "__init__" "Program.__init__" (inClass (topS 46) 0) f fd) (T : PgT K mg CP) (TN : NtT K mg N) (PC : PgC P w K mg base C CB CK CN CD CW CE CM N k)
    (LM : LenM K N fl) (FL : FnOk P w K mg base CX0 1 fl fdl ["self"] (spLnT (NtR N) K)) (BL : Binds K fdl ["self"] []) (MI : ItM K N fi) (FI : ∀ base, FnOk P w K mg base CX0 1 fi di ["self"] (spItT base (NtR N))) (BI : Binds K di ["self"] [])
    (MB : MkB0 P w K mg base CK t0) (OM : OpM K CK .BitOr fo) (FO : FnOk P w K mg base CX0 5 fo fdo ["self", "other"] (spOr0 CK)) (BO : Binds K fdo ["self", "other"] []) :
    FnOk P w K mg base (L2.CX P w) (k + 1) f fd ["self", "channels", "book", "net"] (spPgI CP CK CD C N CB CM CN CW CE) := by
  refine F.okX scPgI (fun vs H Q E h => ?_) (fun cdv A outer s H vs Q E hr h => ?_)
  · obtain ⟨a, l, b, n, dx, xs, cs, ds, ps, H0, rfl, _⟩ := h
    rfl
  · obtain ⟨a, l, b, n, dx, xs, cs, ds, ps, H0, rfl, ha, hna, e0, hl, hxs, hsh, hcs, bk, ⟨t, ys, hv, ht, hys⟩, hps, hp6, q⟩ := h
    have hk5 := PC.hk
    refine ⟨_, pss_cons (ps_expr (pe_cx (E := WE (fun cls d _ H => E cls d H)) PC.dem hr (Nat.le_refl _) (by rfl) (fun σ => passAt (takes_of rfl rfl rfl rfl) σ) (pa_cons (pe_cmpR op_gt (pe_callB (call_lenO (E := E0) LM FL (hr.mono (by omega)) BL (fun σ => at0 (E := fun _ => E0) σ)) (by rfl) T.len PySem.boot_len (pa_cons (pv 3) pa_nil)) pe_int (nomark _)) (pa_cons pe_str pa_nil))))
      (pss_cons (ps_expr (pe_cx (E := WE (fun cls d _ H => E cls d H)) PC.chs hr (Nat.le_refl _) (by rfl) (fun σ => passAt (takes_of rfl rfl rfl rfl) σ) (pa_cons (pv 1) (pa_cons (pe_callB (call_lenO (E := E0) LM FL (hr.mono (by omega)) BL (fun σ => at0 (E := fun _ => E0) σ)) (by rfl) T.len PySem.boot_len (pa_cons (pv 3) pa_nil)) pa_nil))))
      (pss_cons (ps_expr (pe_cx (E := WE (fun cls d _ H => E cls d H)) PC.nms hr (Nat.le_refl _) (by rfl) (fun σ => passAt (takes_of rfl rfl rfl rfl) σ) (pa_cons (pe_lc (own := [("name", 4), ("seats", 5), ("machine", 6)]) (g := gTup K 3 (gCons (gName 4) (gCons (gName 5) (gCons (gName 6) gNil)))) (tt := tYes) (te := tVar 4) rfl scPgI.nd (pi_list (pv 1)) (blkOk_by (own := [("name", 4), ("seats", 5), ("machine", 6)]) (N := nsPgI) (sc := defScope (inClass (topS 46) 0)) (by decide +kernel))
          (fun _ _ _ _ _ => pg_tup rfl (pgs_cons (pg_name (i := 4) scPgI.nd rfl (.inl rfl)) (pgs_cons (pg_name (i := 5) scPgI.nd rfl (.inl rfl)) (pgs_cons (pg_name (i := 6) scPgI.nd rfl (.inl rfl)) pgs_nil)))) (fun _ _ _ _ _ => pts_nil) (fun _ _ _ _ _ => pv 4)) (pa_cons (pv 2) (pa_cons (pv 3) pa_nil)))))
      (pss_cons (ps_expr (pe_cx (E := WE (fun cls d _ H => E cls d H)) PC.ends hr (Nat.le_refl _) (by rfl) (fun σ => passAt (takes_of rfl rfl rfl rfl) σ) (pa_cons (pv 2) pa_nil)))
      (pss_cons (ps_fld (pv 0) (pe_callB (call_lenO (E := E0) LM FL (hr.mono (by omega)) BL (fun σ => at0 (E := fun _ => E0) σ)) (by rfl) T.len PySem.boot_len (pa_cons (pv 3) pa_nil)) rfl)
      (pss_cons (ps_fld (pv 0) (pe_callTy call_tuple_of (by rfl) T.tuple (by decide +kernel) (pa_cons (pv 1) pa_nil)) rfl)
      (pss_cons (ps_fld (pv 0) (pe_cx (E := fun _ => E0) PC.num hr (by omega) (by rfl) at0 (pa_cons (pv 1) pa_nil)) rfl)
      (pss_cons (ps_fld (pv 0) (pe_own (E := fun _ => E0) (pe_bk0 (E := E0) MB hr (by omega) (by rfl) pass0) (pv 2) OM FO (hr.mono (by omega)) BO at0) rfl)
      (pss_one (ps_fld (pv 0) (pe_mx (E := E0) PC.net hr (by omega) (by rfl) pass0 (pa_cons (pe_callTy (call_listO (C := N) (R := NtR N) MI FI BI LM FL BL (hr.mono (by omega)) rfl) (by rfl) T.list (by decide +kernel) (pa_cons (pv 3) pa_nil)) pa_nil)) rfl))))))))), ?_⟩
    have hly := hys.length
    have hl' := e0 _ _ hl
    have lenE : ∀ {H1 : Hp} {σ : L2.St}, Ex H0 H1 → σ[3]? = some (some (.ref n)) → Ev (tCB (rLenO N (spLnT (NtR N) K) E0) (tCons (tVar 3) tNil)) σ H1 (.int (ps.length : Int)) := fun e s3 => ev_is (ev_lenNt (K := K) (ev_var s3) (hv.ex e) (e _ _ ht) (by omega)) (by rw [hly])
    refine q_demand (b := decide ((0 : Int) < (ps.length : Int))) (by decide +kernel) (ev_op (x := .int (ps.length : Int)) (y := .int 0) (lenE e0 rfl) ev_c rv_I0) (fun hb H1 e1 => ?_) (fun hb => ?_)
    rotate_left
    · have hnil : ps = [] := by
        have := of_decide_eq_false hb
        exact List.length_eq_zero_iff.mp (by omega)
      exact Bad.ex e0 ((q _ (.inl ⟨hnil, rfl⟩)).2 _ rfl)
    have hne : ps ≠ [] := fun z => by
      rw [z] at hb
      cases hb
    have x1 := e0.trans e1
    refine q_callE2 rfl (lenE x1 rfl) (fun H2 e2 => ?_)
    have x2 := x1.trans e2
    refine ⟨l, ps.length, xs, cs, rfl, x2 _ _ hl, hxs.imp fun _ _ z => z.ex x2, fun c hc => by have := hsh c hc; omega, hcs, fun hn H3 e3 => ?_, fun g hg => ChE.ex x2 ((q _ (.inr (.inl ⟨hne, g, hg, rfl⟩))).2 _ rfl)⟩
    have x3 := x2.trans e3
    have h8 : cs.length ≤ 8 := by
      by_cases h : cs.length ≤ 8
      · exact h
      · unfold fChans at hn
        rw [if_neg h] at hn
        cases hn
    have hnd : (cs.map (·.1)).Nodup := by
      unfold fChans at hn
      rw [if_pos h8] at hn
      exact (fChs_nd hn).2
    refine q_callL3 (el_lcN (K := K) (ev_var rfl) (x3 _ _ hl) (hxs.imp fun _ _ z => z.ex x3) (by omega) (fun _ _ _ => rfl) (fun _ _ _ _ => ev_var rfl)) rfl rfl (fun nl H4 e4 h4 => ?_)
    have x4 := x3.trans e4
    refine ⟨nl, b, n, cs.map (·.1), ds, ps, rfl, by rw [h4, List.map_map]; rfl, by rw [List.length_map]; omega, bk.ex x4, ⟨t, ys, hv.ex x4, x4 _ _ ht, hys.imp fun _ _ z => z.ex x4⟩, hps, fun o ho => ⟨fun hon H5 e5 => ?_, fun g hg => ?_⟩⟩
    rotate_left
    · subst hg
      exact FltE.ex x4 ((q _ (.inr (.inr (.inl ⟨hne, hn, g, ho, rfl⟩)))).2 _ rfl)
    subst hon
    have x5 := x4.trans e5
    refine q_call1 rfl ⟨b, ds, rfl, bk.ex x5, closed_of ho, fun oe hoe => ⟨fun hoen H6 e6 => ?_, fun z hz => ?_⟩⟩
    rotate_left
    · subst hz
      exact BadF.ex x5 ((q _ (.inr (.inr (.inr (.inl ⟨hne, hn, ho, z, hoe, rfl⟩))))).2 _ rfl)
    subst hoen
    have fin := (q none (.inr (.inr (.inr (.inr ⟨hne, hn, ho, hoe, rfl⟩))))).1 rfl
    have x6 := x5.trans e6
    have ha6 : H6 a = some (.ins CP dx []) := (((((e1.trans e2).trans e3).trans e4).trans e5).trans e6) _ _ ha
    refine q_fldS (es_v (lenE x6 rfl)) rfl ha6 T.cl T.nM (by show 0 < 1000; decide) (fun v H7 e7 hv7 => ?_)
    subst hv7
    have x7 : Ex H0 (upd H7 a (.ins CP dx (putF "machines" (.int (ps.length : Int)) []))) := Ex.mut (x6.trans e7) hna
    have a7 : (upd H7 a (.ins CP dx (putF "machines" (.int (ps.length : Int)) []))) a = some (.ins CP dx (putF "machines" (.int (ps.length : Int)) [])) := upd_same
    generalize upd H7 a (.ins CP dx (putF "machines" (.int (ps.length : Int)) [])) = H8 at x7 a7
    have tupE : EvS (tCB (fun xs H Q => ∃ p ys, xs = [V.ref p] ∧ ((SqL K H p ys ∧ ∀ l, H l = none → Q (.ref l) (upd H l (.tup ys))) ∨ (SqT K H p ys ∧ Q (.ref p) H))) (tCons (tVar 1) tNil)) [some (.ref a), some (.ref l), some (.ref b), some (.ref n), none, none, none] H8 (fun v H' => ∃ tc, v = .ref tc ∧ H' tc = some (.tup xs)) := fun H9 e9 Q9 q9 => eq_tup (ev_var rfl) (.inl (sq_of (x7 _ _ hl))) H9 e9 _ fun tc H10 e10 h10 => q9 _ H10 e10 ⟨tc, rfl, h10⟩
    refine q_fldS tupE rfl a7 T.cl T.nC (by show 1 < 1000; decide) (fun v H9 e9 ⟨tc, hv9, h9⟩ => ?_)
    subst hv9
    have a9 := e9 _ _ a7
    have ntc : tc ≠ a := fun z => by
      rw [z, a9] at h9
      cases h9
    have x9 : Ex H0 (upd H9 a (.ins CP dx (putF "channels" (.ref tc) (putF "machines" (.int (ps.length : Int)) [])))) := Ex.mut (x7.trans e9) hna
    have a10 : (upd H9 a (.ins CP dx (putF "channels" (.ref tc) (putF "machines" (.int (ps.length : Int)) [])))) a = some (.ins CP dx (putF "channels" (.ref tc) (putF "machines" (.int (ps.length : Int)) []))) := upd_same
    have tc10 : (upd H9 a (.ins CP dx (putF "channels" (.ref tc) (putF "machines" (.int (ps.length : Int)) [])))) tc = some (.tup xs) := by rw [upd_ne ntc]; exact h9
    generalize upd H9 a (.ins CP dx (putF "channels" (.ref tc) (putF "machines" (.int (ps.length : Int)) []))) = H10 at x9 a10 tc10
    refine q_fldS (Pv := fun v H' => ∃ d bvs, v = .ref d ∧ H' d = some (.dK bvs) ∧ NumT H' bvs cs) (fun H11 e11 Q11 q11 => ⟨_, rfl, l, xs, cs, rfl, (x9.trans e11) _ _ hl, hxs.imp fun _ _ z => z.ex (x9.trans e11), hcs, hnd, fun p bvs H12 hp12 e12 h12 nt12 => q11 _ H12 e12 ⟨p, bvs, rfl, h12, nt12⟩⟩) rfl a10 T.cl T.nD (by show 2 < 1000; decide) (fun v H11 e11 ⟨d, bvs, hv11, h11, nt11⟩ => ?_)
    subst hv11
    have a11 := e11 _ _ a10
    have nda : d ≠ a := fun z => by
      rw [z, a11] at h11
      cases h11
    have x11 : Ex H0 (upd H11 a (.ins CP dx (putF "by_channel_name" (.ref d) (putF "channels" (.ref tc) (putF "machines" (.int (ps.length : Int)) []))))) := Ex.mut (x9.trans e11) hna
    have a12 : (upd H11 a (.ins CP dx (putF "by_channel_name" (.ref d) (putF "channels" (.ref tc) (putF "machines" (.int (ps.length : Int)) []))))) a = some (.ins CP dx (putF "by_channel_name" (.ref d) (putF "channels" (.ref tc) (putF "machines" (.int (ps.length : Int)) [])))) := upd_same
    have tc12 : (upd H11 a (.ins CP dx (putF "by_channel_name" (.ref d) (putF "channels" (.ref tc) (putF "machines" (.int (ps.length : Int)) []))))) tc = some (.tup xs) := by rw [upd_ne ntc]; exact e11 _ _ tc10
    have d12 : (upd H11 a (.ins CP dx (putF "by_channel_name" (.ref d) (putF "channels" (.ref tc) (putF "machines" (.int (ps.length : Int)) []))))) d = some (.dK bvs) := by rw [upd_ne nda]; exact h11
    have nt12 : NumT (upd H11 a (.ins CP dx (putF "by_channel_name" (.ref d) (putF "channels" (.ref tc) (putF "machines" (.int (ps.length : Int)) []))))) bvs cs := ⟨nt11.keys, nt11.vals.imp fun _ _ ⟨t', y1, y2⟩ => ⟨t', y1, by rw [upd_ne (fun z => by rw [z, a11] at y2; cases y2)]; exact y2⟩⟩
    generalize upd H11 a (.ins CP dx (putF "by_channel_name" (.ref d) (putF "channels" (.ref tc) (putF "machines" (.int (ps.length : Int)) [])))) = H12 at x11 a12 tc12 d12 nt12
    obtain ⟨kvs, bk1, tb⟩ := id bk
    have lkv : kvs.length = ds.length := by
      have e := congrArg List.length tb.keys
      rw [List.length_map, List.length_map] at e
      exact e
    have hl12 := tb.len
    have ndk : (kvs.map (·.1)).Nodup := by
      rw [tb.keys, show (ds.map fun d => (Sum.inr d.1 : Key)) = (ds.map (·.1)).map Sum.inr from by rw [List.map_map]; rfl]
      exact List.Pairwise.map _ (fun a b hab hh => hab (Sum.inr.inj hh)) tb.nd
    refine q_fldS (Pv := fun v H' => ∃ b', v = .ref b' ∧ b' ≠ a ∧ BkAt CK H' b' kvs) (fun H13 e13 Q13 q13 => ?_) rfl a12 T.cl T.nB (by show 3 < 1000; decide) (fun v H13 e13 ⟨b', hv13, hb'a, hb'⟩ => ?_)
    · refine fun bn dbn hbn hdbn hne9 => ⟨bn, dbn, t0, [], H13, rfl, upd_same, hbn, own_ex0 hbn hdbn, .inl ⟨MB.t0, rfl⟩, fun H14 e14 k14 => ⟨rfl, ?_⟩⟩
      have x14 := (x11.trans e13).trans e14
      obtain ⟨dz, dd, k1, k2⟩ := id k14
      obtain ⟨dz2, dd2, g1, g2⟩ := id (bk1.ex x14)
      refine ⟨_, rfl, bn, b, dz, dz2, _, _, rfl, rfl, k1, g1, bn, b, kvs, rfl, k14, bk1.ex x14, ndk, by omega, fun r H15 hr15 e15 h15 => ?_⟩
      refine q13 _ H15 (e14.trans e15) ⟨r, rfl, fun z => ?_, h15⟩
      rw [z, (e13.trans e14) _ _ a12] at hr15
      cases hr15
    subst hv13
    have a13 := e13 _ _ a12
    obtain ⟨dxb, db, hb1, hb2⟩ := hb'
    have ndb : db ≠ a := fun z => by
      rw [z, a13] at hb2
      cases hb2
    have x13 : Ex H0 (upd H13 a (.ins CP dx (putF "book" (.ref b') (putF "by_channel_name" (.ref d) (putF "channels" (.ref tc) (putF "machines" (.int (ps.length : Int)) [])))))) := Ex.mut (x11.trans e13) hna
    have a14 : (upd H13 a (.ins CP dx (putF "book" (.ref b') (putF "by_channel_name" (.ref d) (putF "channels" (.ref tc) (putF "machines" (.int (ps.length : Int)) [])))))) a = some (.ins CP dx (putF "book" (.ref b') (putF "by_channel_name" (.ref d) (putF "channels" (.ref tc) (putF "machines" (.int (ps.length : Int)) []))))) := upd_same
    have keep13 : ∀ c o, c ≠ a → H13 c = some o → (upd H13 a (.ins CP dx (putF "book" (.ref b') (putF "by_channel_name" (.ref d) (putF "channels" (.ref tc) (putF "machines" (.int (ps.length : Int)) [])))))) c = some o := fun c o hc h => by rw [upd_ne hc]; exact h
    generalize upd H13 a (.ins CP dx (putF "book" (.ref b') (putF "by_channel_name" (.ref d) (putF "channels" (.ref tc) (putF "machines" (.int (ps.length : Int)) []))))) = H14 at x13 a14 keep13
    refine s_fldS (Pv := fun v H' => ∃ n' t', v = .ref n' ∧ n' ≠ a ∧ t' ≠ a ∧ NtV N H' n' t' ∧ H' t' = some (.tup ys)) (fun H15 e15 Q15 q15 => ?_) rfl a14 T.cl T.nN (by show 4 < 1000; decide) (fun v H15 e15 ⟨n', t', hv15, hn'a, ht'a, hnv, hnt⟩ => ?_)
    · have x15 := x13.trans e15
      obtain ⟨dxn, hn1⟩ := hv.ex x15
      refine ⟨_, rfl, n, dxn, t, _, ys, rfl, hn1, ⟨hv.ex x15, ys, x15 _ _ ht⟩, x15 _ _ ht, by omega, fun H16 e16 => ⟨(hv.ex x15).ex e16, ys, e16 _ _ (x15 _ _ ht)⟩, fun lp H16 hlp e16 h16 => ?_⟩
      intro x dz hx hdx hne9
      refine ⟨x, dz, lp, ys, H16, rfl, upd_same, hx, own_ex0 hx hdx, .inl (sq_of h16), by omega, fun H17 t' e17 hv17 ht17 => ⟨rfl, ?_⟩⟩
      have a17 := (e15.trans (e16.trans e17)) _ _ a14
      refine q15 _ H17 (e16.trans e17) ⟨x, t', rfl, fun z => ?_, fun z => ?_, hv17, ht17⟩
      · rw [z, (e15.trans e16) _ _ a14] at hx
        cases hx
      · rw [z, a17] at ht17
        cases ht17
    subst hv15
    have keep15 : ∀ c o, c ≠ a → H15 c = some o → (upd H15 a (.ins CP dx (pgF ps.length tc d b' n'))) c = some o := fun c o hc h => by rw [upd_ne hc]; exact h
    have x15 : Ex H0 (upd H15 a (.ins CP dx (pgF ps.length tc d b' n'))) := Ex.mut (x13.trans e15) hna
    have up : ∀ c o, c ≠ a → H12 c = some o → (upd H15 a (.ins CP dx (pgF ps.length tc d b' n'))) c = some o := fun c o hc h => keep15 c o hc (e15 _ _ (keep13 c o hc (e13 _ _ h)))
    have up13 : ∀ c o, c ≠ a → H13 c = some o → (upd H15 a (.ins CP dx (pgF ps.length tc d b' n'))) c = some o := fun c o hc h => keep15 c o hc (e15 _ _ (keep13 c o hc h))
    obtain ⟨dxn, hn1⟩ := hnv
    exact fin _ x15 ⟨dx, tc, d, b', n', xs, bvs, upd_same, up _ _ ntc tc12, hxs.imp fun _ _ z => z.ex x15, up _ _ nda d12, ⟨nt12.keys, nt12.vals.imp fun _ _ ⟨t', y1, y2⟩ => ⟨t', y1, up _ _ (fun z => by rw [z, a12] at y2; cases y2) y2⟩⟩,
      ⟨kvs, ⟨dxb, db, up13 _ _ hb'a hb1, up13 _ _ ndb hb2⟩, tb.ex x15⟩, ⟨t', ys, ⟨dxn, keep15 _ _ hn'a hn1⟩, keep15 _ _ ht'a hnt, hys.imp fun _ _ z => z.ex x15⟩⟩
/-- program.declared() -/
def spDecl (CP CK CD C N : Addr) : Sp := fun vs H Q _ => ∃ (a : Addr) (cs : List ChR) (ds : Ds) (ps : List Pr), vs = [.ref a] ∧ PgAt CP CK CD C N H a cs ds ps ∧ cs.length ≤ 1000 ∧ ∀ p xs H', H p = none → Ex H H' → H' p = some (.lst xs) → LsA ChAt H' xs cs → Q (.ref p) H'
theorem scDecl : FnScope ["self"] ["self"] (defScope (inClass (topS 46) 2)) := ⟨rfl, rfl, rfl, by decide +kernel, rfl, by decide +kernel, by decide +kernel⟩
theorem ne_mc : ¬ (("machines" : Str) = "channels") := by decide +kernel
theorem ne_md : ¬ (("machines" : Str) = "by_channel_name") := by decide +kernel
theorem ne_mb : ¬ (("machines" : Str) = "book") := by decide +kernel
theorem ne_mn : ¬ (("machines" : Str) = "net") := by decide +kernel
theorem ne_cd : ¬ (("channels" : Str) = "by_channel_name") := by decide +kernel
theorem ne_cb : ¬ (("channels" : Str) = "book") := by decide +kernel
theorem ne_cn : ¬ (("channels" : Str) = "net") := by decide +kernel
theorem pg_machines {m : Int} {tc d b n : Addr} : (pgF m tc d b n).lookup ("machines" : Str) = some (.int m) := by
  unfold pgF
  rw [lookup_putF, if_neg ne_mn, lookup_putF, if_neg ne_mb, lookup_putF, if_neg ne_md, lookup_putF, if_neg ne_mc, lookup_putF, if_pos rfl]
theorem pg_channels {m : Int} {tc d b n : Addr} : (pgF m tc d b n).lookup ("channels" : Str) = some (.ref tc) := by
  unfold pgF
  rw [lookup_putF, if_neg ne_cn, lookup_putF, if_neg ne_cb, lookup_putF, if_neg ne_cd, lookup_putF, if_pos rfl]
theorem ok_decl {f : Addr} {fd : FuncData} (F : Fun K "declared" "Program.declared" (inClass (topS 46) 2) f fd) (T : PgT K mg CP) : FnOk P w K mg base CX0 1 f fd ["self"] (spDecl CP CK CD C N) := by
  refine F.ok scDecl (fun vs H Q E h => ?_) (fun cdv A outer s H vs Q E hr h => ?_)
  · obtain ⟨a, cs, ds, ps, rfl, _⟩ := h
    rfl
  · obtain ⟨a, cs, ds, ps, rfl, ⟨dx, tc, d, b', n', xs, bvs, h1, h2, h3, _⟩, hz, q⟩ := h
    refine ⟨_, pss_one (ps_ret (pe_callTy call_list_of (by rfl) T.list (by decide +kernel) (pa_cons (pe_fld (pv 0) rfl) pa_nil))), ?_⟩
    refine ⟨_, rfl, a, CP, dx, _, .ref tc, rfl, h1, T.cl, T.nC, pg_channels, tc, xs, rfl, .inr (st_of h2), fun p hp => ?_⟩
    exact q p xs _ hp (Ex.new hp) upd_same (h3.imp fun _ _ z => z.ex (Ex.new hp))
end
end Fs

set_option Elab.async false
set_option linter.all false
set_option maxRecDepth 100000
set_option maxHeartbeats 2000000
namespace Fs
open PySem L2 Evl FsE FsC
structure LawT (K : PySem.W.Frag) (mg : Str → Option Value) : Prop where
  len : mg "len" = none
  int : mg "int" = none
  abs : mg "abs" = none
  range : mg "range" = none
section
variable {P : Program} {w : World} {K : PySem.W.Frag} {mg : Str → Option Value} {base : Heap}
theorem rc_int {K : PySem.W.Frag} {i : Int} {H : Hp} : RC (fun xs H Q => (∃ i, xs = [V.int i] ∧ Q (.int i) H) ∨ ∃ k, xs = [V.bl k] ∧ Q (.int (if k then 1 else 0)) H) [.int i] H (.int i) := fun H1 _ Q q => .inl ⟨i, rfl, q H1 (Ex.refl H1)⟩
/-- _law_cell_at(script, k): some int -/
def spCellAt (K : PySem.W.Frag) : Sp := fun vs H Q _ => ∃ (a : Addr) (ns : List Int) (k : Nat), vs = [.ref a, .int (k : Int)] ∧ SqL K H a (ns.map V.int) ∧ ∀ i : Int, RetV (.int i) H Q
theorem scCellAt : FnScope ["_law_script", "_law_k"] ["_law_script", "_law_k"] (defScope (topS 57)) := ⟨rfl, rfl, rfl, by decide +kernel, rfl, by decide +kernel, by decide +kernel⟩
theorem ok_cell_at {f : Addr} {fd : FuncData} (F : Fun K "_law_cell_at" "_law_cell_at" (topS 57) f fd) (T : LawT K mg) : FnOk P w K mg base CX0 1 f fd ["_law_script", "_law_k"] (spCellAt K) := by
  refine F.ok scCellAt (fun vs H Q E h => ?_) (fun cdv A outer s H vs Q E hr h => ?_)
  · obtain ⟨a, ns, k, rfl, _⟩ := h
    rfl
  · obtain ⟨a, ns, k, rfl, hS, q⟩ := h
    refine ⟨_, pss_cons (ps_if (pt_cmpR op_lt (pv 1) (pe_callB call_len_seq (by rfl) T.len PySem.boot_len (pa_cons (pv 0) pa_nil)) (nomark _)) (pss_one (ps_ret (pe_ix ix_list (pv 0) (pv 1) (fun _ _ => rfl)))) pss_nil) (pss_one (ps_ret pe_int)), ?_⟩
    refine q_when (b := decide ((k : Int) < ((ns.map V.int).length : Nat))) (et_test (ev_op (ev_var rfl) (ev_cb (ea_cons (ev_var rfl) ea_nil) (fun H2 e2 Q' q' => ⟨a, _, rfl, .inl (ex_l e2 hS), q' H2 (Ex.refl H2)⟩)) rv_I0)) (fun hb H1 e1 => ?_) (fun hb H1 e1 => ?_)
    · have hk : k < ns.length := by
        have : (k : Int) < ((ns.map V.int).length : Nat) := by simpa using hb
        rw [List.length_map] at this
        omega
      refine s_ret (v := .int ns[k]) (ev_op (ev_var rfl) (ev_var rfl) (rv_ixL (ex_l e1 hS) (atI_nat (by rw [List.getElem?_map, List.getElem?_eq_getElem hk]; rfl)))) (fun H2 e2 => q _ H2 (e1.trans e2))
    · exact s_ret ev_c (fun H2 e2 => q _ H2 (e1.trans e2))
/-- _law_mixed(cell, k): some int -/
def spMixed : Sp := fun vs H Q _ => ∃ (c : Int) (k : Nat), vs = [.int c, .int (k : Int)] ∧ k ≤ 1000 ∧ ∀ i : Int, RetV (.int i) H Q
theorem scMixed : FnScope ["_law_cell", "_law_k"] ["_law_cell", "_law_k"] (defScope (topS 58)) := ⟨rfl, rfl, rfl, by decide +kernel, rfl, by decide +kernel, by decide +kernel⟩
theorem ok_mixed {f : Addr} {fd : FuncData} (F : Fun K "_law_mixed" "_law_mixed" (topS 58) f fd) (T : LawT K mg) : FnOk P w K mg base CX0 1 f fd ["_law_cell", "_law_k"] spMixed := by
  refine F.ok scMixed (fun vs H Q E h => ?_) (fun cdv A outer s H vs Q E hr h => ?_)
  · obtain ⟨c, k, rfl, _⟩ := h
    rfl
  · obtain ⟨c, k, rfl, hk, q⟩ := h
    refine ⟨_, pss_one (ps_ret (pe_op op_mod (pe_op op_mul (pe_callTy call_int1 (by rfl) T.int (by decide +kernel) (pa_cons (pe_op op_add (pe_op op_mod (pe_op op_pow (pe_op op_add (pe_op op_add (pe_op op_mod (pe_callTy call_int1 (by rfl) T.int (by decide +kernel) (pa_cons (pv 0) pa_nil)) pe_int) (pe_op op_mul pe_int (pv 1))) pe_int) pe_int) pe_int) (pv 1)) pa_nil)) pe_int) pe_int)), ?_⟩
    have h1 := Int.emod_nonneg c (b := 2147483647) (by decide)
    have h2 := Int.emod_lt_of_pos c (b := 2147483647) (by decide)
    refine ⟨.int c, rfl, .inl ⟨c, rfl, c, 2147483647, rfl, rfl, (by decide : (0 : Int) < 2147483647), ?_⟩⟩
    refine ⟨.int (k : Int), rfl, 7919, (k : Int), rfl, rfl, .inl ⟨by decide, by decide⟩, ?_⟩
    refine ⟨c % 2147483647, 7919 * (k : Int), rfl, rfl, c % 2147483647 + 7919 * (k : Int), 104729, rfl, rfl, ?_⟩
    refine ⟨c % 2147483647 + 7919 * (k : Int) + 104729, 5, rfl, rfl, ⟨by decide, by decide, by omega⟩, ?_⟩
    refine ⟨_, 2147483647, rfl, rfl, (by decide : (0 : Int) < 2147483647), ?_⟩
    refine ⟨.int (k : Int), rfl, _, (k : Int), rfl, rfl, .inl ⟨_, rfl, _, 40692, rfl, rfl, .inr ⟨by decide, by decide⟩, ?_⟩⟩
    refine ⟨_, 2147483629, rfl, rfl, (by decide : (0 : Int) < 2147483629), ?_⟩
    exact q _ H (Ex.refl H)
/-- _law_row(cell, many): so many ints from 0 to 999 -/
def RowOk (row : List Int) : Prop := ∀ v ∈ row, 0 ≤ v ∧ v < 1000
def spRow : Sp := fun vs H Q _ => ∃ (c : Int) (n : Nat), vs = [.int c, .int (n : Int)] ∧ n ≤ 500 ∧ ∀ row : List Int, row.length = n → RowOk row → RetL (row.map V.int) H Q
theorem scRow : FnScope ["_law_cell", "_law_many", "_law_row_here", "_law_rest", "_law_k"] ["_law_cell", "_law_many"] (defScope (topS 59)) := ⟨rfl, rfl, rfl, by decide +kernel, rfl, by decide +kernel, by decide +kernel⟩
theorem rowOk_add {row : List Int} {v : Int} (h : RowOk row) (h0 : 0 ≤ v) (h1 : v < 1000) : RowOk (row ++ [v]) := fun x hx => by
  rcases List.mem_append.mp hx with hx | hx
  · exact h x hx
  · rw [List.mem_singleton.mp hx]
    exact ⟨h0, h1⟩
theorem ok_row {f : Addr} {fd : FuncData} (F : Fun K "_law_row" "_law_row" (topS 59) f fd) (T : LawT K mg) (GM : CalX P w K mg base CX0 1 "_law_mixed" spMixed) : FnOk P w K mg base CX0 2 f fd ["_law_cell", "_law_many"] spRow := by
  refine F.ok scRow (fun vs H Q E h => ?_) (fun cdv A outer s H vs Q E hr h => ?_)
  · obtain ⟨c, n, rfl, _⟩ := h
    rfl
  · obtain ⟨c, n, rfl, hn, q⟩ := h
    refine ⟨_, pss_cons (ps_set (i := 2) scRow.nd rfl (Or.inl rfl) (pe_lst pa_nil))
      (pss_cons (ps_set (i := 3) scRow.nd rfl (Or.inl rfl) pe_int)
      (pss_cut (ps_if (pt_cmpR op_ge (pe_callB call_abs (by rfl) T.abs (by decide +kernel) (pa_cons (pv 0) pa_nil)) (pe_op op_pow pe_int pe_int) (nomark _)) (pss_one (ps_set (i := 3) scRow.nd rfl (Or.inl rfl) (pe_callB call_abs (by rfl) T.abs (by decide +kernel) (pa_cons (pv 0) pa_nil)))) pss_nil)
      (pss_cons (ps_for PassesOwn.never rfl (pi_range1 rfl T.range (pa_cons (pv 1) pa_nil)) (pg_name (i := 4) scRow.nd rfl (Or.inl rfl))
        (pss_one (ps_if (pt_cmpR op_gt (pv 3) pe_int (nomark _))
          (pss_cons (ps_expr (pe_bm PySem.F.plainAttrs_list PySem.F.slot_list_append PySem.F.type_list_append mt_append (pv 2) (pa_cons (pe_op op_mod (pe_callTy call_int1 (by rfl) T.int (by decide +kernel) (pa_cons (pv 3) pa_nil)) pe_int) pa_nil)))
            (pss_one (ps_set (i := 3) scRow.nd rfl (Or.inl rfl) (pe_op op_fdiv (pv 3) pe_int))))
          (pss_one (ps_expr (pe_bm PySem.F.plainAttrs_list PySem.F.slot_list_append PySem.F.type_list_append mt_append (pv 2) (pa_cons (pe_op op_mod (pe_callTy call_int1 (by rfl) T.int (by decide +kernel) (pa_cons (pe_cx (E := fun _ => E0) GM hr (by decide) (by rfl) at0 (pa_cons (pv 0) (pa_cons (pv 4) pa_nil))) pa_nil)) pe_int) pa_nil)))))))
      (pss_one (ps_ret (pv 2)))))), ?_⟩
    refine q_asgL (xs := []) (el_lst ea_nil (by decide)) (fun l H1 hl e1 h1 => ?_)
    refine q_asg (v := .int 0) ev_c (fun H2 e2 => ?_)
    refine q_cut (M := fun σ' H' => ∃ r : Int, σ' = [some (.int c), some (.int (n : Int)), some (.ref l), some (.int r), none] ∧ Ex H H' ∧ H' l = some (.lst [])) ?_ (fun σ3 H3 ⟨r, hσ3, e3, h3⟩ => ?_)
    · refine s_when (b := decide ((10 : Int) ^ (18 : Int).toNat ≤ if c < 0 then -c else c)) (et_test (ev_op (ev_cb (ea_cons (ev_var rfl) ea_nil) (fun H4 _ Q' q' => ⟨c, rfl, q' H4 (Ex.refl H4)⟩)) (ev_op ev_c ev_c (rv_I ⟨by decide, by decide, by decide⟩)) rv_I0)) (fun hb H3 e3 => ?_) (fun hb H3 e3 => ?_)
      · exact s_asg (ev_cb (ea_cons (ev_var rfl) ea_nil) (fun H4 _ Q' q' => ⟨c, rfl, q' H4 (Ex.refl H4)⟩)) (fun H4 e4 => ⟨_, rfl, ((e1.trans e2).trans e3).trans e4, (e2.trans (e3.trans e4)) _ _ h1⟩)
      · exact ⟨0, rfl, (e1.trans e2).trans e3, (e2.trans e3) _ _ h1⟩
    · subst hσ3
      refine q_forR1 (n := (n : Int)) (ea_cons (ev_var rfl) ea_nil) (by omega) (fun i σ' H' => ∃ (row : List Int) (rest : Int) (v4 : Option V), σ' = [some (.int c), some (.int (n : Int)), some (.ref l), some (.int rest), v4] ∧ H' l = some (.lst (row.map V.int)) ∧ row.length = i ∧ RowOk row ∧ Ex H H')
        (fun H4 e4 => ⟨[], r, none, rfl, e4 _ _ h3, rfl, (fun v hv => nomatch hv), e3.trans e4⟩) (fun i σ' H' hi ⟨row, rest, v4, hσ, hl', hlen, hrow, he⟩ => ?_) (fun σ' H' ⟨row, rest, v4, hσ, hl', hlen, hrow, he⟩ => ?_)
      · subst hσ
        have hsz : (row.map V.int).length < 100000 := by rw [List.length_map]; omega
        have app : ∀ v : Int, row.map V.int ++ [V.int v] = (row ++ [v]).map V.int := fun v => by rw [List.map_append]; rfl
        refine s_if (b := decide (0 < rest)) (et_test (ev_op (ev_var rfl) ev_c rv_I0)) (fun hb H4 e4 => ?_) (fun hb H4 e4 => ?_)
        · refine q_app (xs := row.map V.int) (v := .int (rest % 1000)) (e4 _ _ hl') (ev_var rfl) (ev_op (x := .int rest) (ev_cb (ea_cons (ev_var rfl) ea_nil) (rc_int (K := K))) ev_c (rv_I (by decide))) hsz (fun H5 e5 => ?_)
          refine s_asg (ev_op (x := .int rest) (ev_var rfl) ev_c (rv_I ⟨by decide, by decide⟩)) (fun H6 e6 => ?_)
          refine ⟨row ++ [rest % 1000], _, _, rfl, e6 _ _ (by rw [← app]; exact upd_same), (by rw [List.length_append, hlen]; rfl), rowOk_add hrow (Int.emod_nonneg _ (by decide)) (Int.emod_lt_of_pos _ (by decide)), (Ex.mut ((he.trans e4).trans e5) hl).trans e6⟩
        · refine ⟨_, rfl, .inl ⟨rfl, _, sq_of (e4 _ _ hl')⟩, _, rfl, _, rfl, c, i, rfl, by omega, fun m H5 e5 => .inl ⟨m, rfl, m, 1000, rfl, rfl, (by decide : (0 : Int) < 1000), l, row.map V.int, .int (m % 1000), rfl, rfl, (e4.trans e5) _ _ hl', sz_lt hsz, ?_⟩⟩
          refine ⟨row ++ [m % 1000], _, _, rfl, (by rw [← app]; exact upd_same), (by rw [List.length_append, hlen]; rfl), rowOk_add hrow (Int.emod_nonneg _ (by decide)) (Int.emod_lt_of_pos _ (by decide)), Ex.mut ((he.trans e4).trans e5) hl⟩
      · subst hσ
        have hn' : row.length = n := by simpa using hlen
        refine s_ret (ev_var rfl) (fun H4 e4 => q row hn' hrow l H4 hl (he.trans e4) (e4 _ _ hl'))
end
end Fs

set_option Elab.async false
set_option linter.all false
set_option maxRecDepth 100000
set_option maxHeartbeats 4000000
/-! try: body, several clauses, each with its own name: except x as n: suite. -/
namespace FsT
open PySem PySem.Spec PyProof.Rows L2
abbrev Cls3 := Value × Nat × (Addr → Value → Option Addr → TS)
/-- the ends of a suite whose name goes behind it -/
def offN (i : Nat) (D : Ends) : Ends := { nx := fun τ G => D.nx (τ.set i none) G, rt := D.rt, bk := fun τ G => D.bk (τ.set i none) G, ct := fun τ G => D.ct (τ.set i none) G }
/-- what the clauses wish, in their order -/
def wAll (K : PySem.W.Frag) (W0 : WX) (D : Ends) : List Cls3 → WX
  | [] => W0
  | q :: more => fun cls d τ G => ∃ b, PySem.W.exmOne K cls q.1 = some b ∧ (b = true → ∀ x, G x = none → q.2.2 x cls d (offN q.2.1 D) (τ.set q.2.1 (some (.ref x))) G) ∧ (b = false → wAll K W0 D more cls d τ G)
inductive Clauses (X : Cx) : List ExceptHandler → List Cls3 → Prop
  | none : Clauses X [] []
  | one {y n : Str} {c : Value} {i : Nat} {ts : Addr → Value → Option Addr → TS} {st : Stmt} {sts : List Stmt} {p1 p2 : Pos} {hs : List ExceptHandler} {qs : List Cls3} (at_ : X.N[i]? = some n) (loc : X.env.kindOf n = some .local) (nm : Names X y c)
      (su : ∀ (x : Addr) (o : Obj) (cls : Value) (d : Option Addr) (pn : List (Addr × Obj)), Zc cls d o → (∃ vs, o.data = .fields vs) → PSs (X.suite x ((x, o) :: pn)) (st :: sts) (ts x cls d)) (more : Clauses X hs qs) :
      Clauses X (.ExceptHandler (some (.Name y p1)) (some n) (st :: sts) p2 :: hs) ((c, i, ts) :: qs)
section
variable {X : Cx} {body : List Stmt} {h₀ : ExceptHandler} {hds : List ExceptHandler} {qs : List Cls3} {pos : Pos} {tb : WX → TS} {W0 : WX}
theorem ps_try_all (st : X.stack = X.env :: X.outer) (fr : X.env.frame = some X.env.locals) (nd : X.N.Nodup) (tk : Takes X W0)
    (hb : ∀ (W : WX) (pn : List (Addr × Obj)) (xe : Value → Shared → Prop), Takes (X.tr pn xe) W → PassesOwn (model X.prog X.w) X.A X.env xe → PSs (X.tr pn xe) body (tb W))
    (hh : Clauses X (h₀ :: hds) qs) : PS X (.Try body (h₀ :: hds) [] [] pos) (fun D τ G => tb (wAll X.K W0 D qs) D τ G) := by
  refine ⟨fun pins s τ G D I h => ?_⟩
  have ok := I.ok
  have afr : X.A.frames = some (X.env :: X.outer) := ok.frames.trans (congrArg some st)
  refine wpAny_Try_except (wpAny_mono ((hb (wAll X.K W0 D qs) (X.pn ++ pins) (fun e s₁ => wpAny (model X.prog X.w) X.A (noteFrame e X.env) (fun _ s₂ => wpAny (model X.prog X.w) X.A (setFlight e none) (fun _ s₃ =>
    wpAny (model X.prog X.w) X.A (handleBy e X.env (h₀ :: hds)) (SP X pins D) X.xe s₃) X.xe s₂) X.xe s₁) (fun u s' fly => ?_) PassesOwn.looking).run [] s τ G D (I.toTry _) h) (fun fl s1 z => ?_) (fun _ _ z => z))
  rotate_left
  · cases fl with
    | ret u => exact let ⟨v, τ1, G1, J, r, q⟩ := z; ⟨v, τ1, G1, J.ofTry ok, r, q⟩
    | next => exact let ⟨τ1, G1, J, q⟩ := z; wpAny_execs_nil ⟨τ1, G1, J.ofTry ok, q⟩
    | brk => exact let ⟨τ1, G1, J, q⟩ := z; ⟨τ1, G1, J.ofTry ok, q⟩
    | cont => exact let ⟨τ1, G1, J, q⟩ := z; ⟨τ1, G1, J.ofTry ok, q⟩
  obtain ⟨x, B, sI, pins1, τ1, G1, cls, d, rfl, Jt, nb, up, sky, nx, os, ag, w⟩ := fly
  have J : Inv X pins τ1 G1 sI := Jt.ofTry ok
  show wpAny (model X.prog X.w) X.A (noteFrame (.ref x) X.env) _ _ _
  refine Sky.land Zc.steady afr fr (show Sky B (X.env :: X.outer) x (Zc cls d) X.env.locals s'.heap from st ▸ sky) fun g fg ug => ?_
  obtain ⟨o, vs, ho, hz, hd⟩ := fg.there
  have out : x ∉ frs (X.env :: X.outer) := fun hm => by
    obtain ⟨_, o', eo, bad⟩ := fg.2.2.1.mem hm
    rw [ho] at eo
    cases eo
    exact bad _ hd
  have n1 : x ≠ X.env.locals := fun z => out (List.mem_filterMap.mpr ⟨X.env, List.mem_cons_self, fr.trans (congrArg some z.symm)⟩)
  have n2 : x ∉ X.fs := fun hm => let ⟨e, he, q⟩ := List.mem_filterMap.mp hm; out (List.mem_filterMap.mpr ⟨e, List.mem_cons_of_mem _ he, q⟩)
  have Jg : Inv X pins τ1 G1 { s' with heap := g } := J.landed nb fg.1 (up.trans ug) os ag
  have S := Jg.suite ho hd nx n1 n2
  have kin : X.K.In g := Jg.kIn
  have every : ∀ {hs : List ExceptHandler} {l : List Cls3}, Clauses X hs l → wAll X.K W0 D l cls d τ1 G1 → wpAny (model X.prog X.w) X.A (handleBy (.ref x) X.env hs) (SP X pins D) X.xe { s' with heap := g } := by
    intro hs l cl
    induction cl with
    | none =>
      intro w
      obtain ⟨_, _, _, o1, vs1, T, oT, ts1, e1, _, e2, e3, _⟩ := id fg
      have up1 : wpAny (model X.prog X.w) X.A (setFlight (.ref x) X.env.frame) (fun _ s4 => wpAny (model X.prog X.w) X.A (throw (.ref x) : Sem Flow) (SP X pins D) X.xe s4) X.xe { s' with heap := g } := fr ▸ HandSPX.setFlight_upZ fg fun g2 held ug2 => wpAny_throw (tk _ _
        ⟨x, B, sI, pins, τ1, G1, cls, d, rfl, J, nb, (up.trans ug).trans ug2, .inr (.inr (by rw [st]; exact held)), nx, os, ag, w⟩)
      refine wpAny_handleBy_nil ?_
      unfold PySem.passOn
      refine wpAny_bind (wpAny_field e1 e2 e3 ?_)
      rw [if_neg (by simp : ¬ ((Value.ref T == Value.none) = true))]
      first
        | exact wpAny_bind (wpAny_pure (wpAny_bind up1))
        | exact wpAny_bind up1
    | @one y n c i ts st1 sts1 p1 p2 hs1 qs1 at_ loc nm su more ih =>
      rintro ⟨b, eb, yes, no⟩
      have tyx : PySem.W.Looks (model X.prog X.w) g (typeOf (.ref x)) cls := fun A Q E s k q => wpAny_typeOf_ref (k _ _ ho) (hz.1 ▸ q)
      refine wpAny_handleBy_cons (codeAny_handlers_test ?_) (by intro q; cases q)
      have named : ∀ {Q : Value → Shared → Prop} {E : Value → Shared → Prop}, Q c { s' with heap := g } → wpAny (model X.prog X.w) (X.A.mark (some (.ref x))) (eval (.Name y p1) X.env) Q E { s' with heap := g } := fun {Q E} q => by
        rcases nm with ⟨gl, db, hm | ⟨hm, hv, hnn⟩⟩
        · exact ld_glob (X := X.suite x ((x, o) :: (X.pn ++ pins))) S gl hm q db
        · exact ld_blt (X := X.suite x ((x, o) :: (X.pn ++ pins))) S gl hm hv q hnn db
      refine named ((PySem.W.exm_one (M := model X.prog X.w) kin tyx eb).here ?_)
      cases b with
      | false => exact ih (no rfl)
      | true =>
        refine codeAny_handlers_suite_as (HandSPX.lands_againZ fg fun g2 fg2 ug2 => ?_)
        obtain ⟨o2, vs2, ho2, hz2, hd2⟩ := fg2.there
        have Jg2 : Inv X pins τ1 G1 { s' with heap := g2 } := J.landed nb fg2.1 ((up.trans ug).trans ug2) os ag
        have S2 := Jg2.suite ho2 hd2 nx n1 n2
        refine store_ok (X := X.suite x ((x, o2) :: (X.pn ++ pins))) (v := .ref x) S2 nd at_ (.inl loc) rfl (fun s5 S5 => ?_) (.inr loc)
        refine wpAny_mono ((su x o2 cls d (X.pn ++ pins) hz2 ⟨_, hd2⟩).run [] s5 _ G1 _ S5 (yes rfl x nx)) (fun fl s6 z => ?_) (fun _ _ z => False.elim z)
        have goes : ∀ {τ6 : L2.St} {G6 : Hp} {Q : Shared → Prop}, Inv (X.suite x ((x, o2) :: (X.pn ++ pins))) [] τ6 G6 s6 → (∀ s7, Inv X pins (τ6.set i none) G6 s7 → Q s7) →
            wpAny (model X.prog X.w) X.A (do bindName X.env n .none; unbindBehindTheSuite X.env n p2) (fun _ s7 => Q s7) X.xe s6 := fun {τ6 G6 Q} S6 hq => gone_ok (S6.unsuite ok) nd at_ loc hq
        cases fl with
        | ret u => exact let ⟨v6, τ6, G6, S6, r6, q6⟩ := z; goes S6 fun s7 J7 => ⟨_, _, _, J7, r6, q6⟩
        | next => exact let ⟨τ6, G6, S6, q6⟩ := z; goes S6 fun s7 J7 => ⟨_, _, J7, q6⟩
        | brk => exact let ⟨τ6, G6, S6, q6⟩ := z; goes S6 fun s7 J7 => ⟨_, _, J7, q6⟩
        | cont => exact let ⟨τ6, G6, S6, q6⟩ := z; goes S6 fun s7 J7 => ⟨_, _, J7, q6⟩
  exact every hh w
end
/-- o.m(..), what the method raises told by the slots -/
def tMethS (C : Addr) (m : Str) (sp : Sp) (E : L2.St → XK) (ta : TE) (t : TA) : TE := fun τ G Q => ta τ G fun x G1 => ∃ a dx fs, x = .ref a ∧ G1 a = some (.ins C dx fs) ∧ fs.lookup m = none ∧ t τ G1 fun vs G2 => sp (x :: vs) G2 Q (E τ)
section
variable {X : Cx} {CX : CXT} {k : Nat} {f C : Addr} {fd : FuncData} {ps : List Str} {sp : Sp} {E : L2.St → XK} {m : Str} {pos apos : Pos} {e o : Expr} {es : List Expr} {ta : TE} {t : TA}
theorem pe_methS {pl : Sem Bool} (he : PE X o ta) (c : Cls X.K C) (hm : Meth X.K C m f) (F : FnOk X.prog X.w X.K X.mg X.base CX k f fd ps sp) (hr : Room k X.A) (hb : Binds X.K fd ps []) (hx : ∀ τ, PassesAt CX X τ (E τ)) (ha : PA X (e :: es) t)
    (hst : starEach (e :: es) X.env = (false, eval e X.env) :: starEach es X.env := by rfl) (hpl : (backTo pos (starEach es X.env)).any (·.1) = false := by rfl)
    (ht : eval (.Call (.Attribute o m apos) (e :: es) [] pos) X.env = (do
      let ov ← eval o X.env
      standAt apos.atName
      let (f, first) ← holding [ov] (getMethod ov m pl)
      callWith pos f first (backTo pos (starEach (e :: es) X.env)) (backToKw pos (keywordEach [] X.env))) := by rfl) :
    PE X (.Call (.Attribute o m apos) (e :: es) [] pos) (tMethS C m sp E ta t) := by
  refine ⟨fun pins s τ G Q I h => PySem.W.methodCall_KW (pl := pl) (thn (he.run pins s τ G _ I h) fun u s1 ⟨x, G1, I1, rx, a, dx, fs, ex, ea, l, q⟩ => ?_) ht⟩
  subst ex
  obtain rfl : u = Value.ref a := rx
  exact getmeth_ok I1 ea c hm l (PySem.W.callWith_K (first := [.ref a]) (h₀ := X.base) I.ok.mod.kin hm.kp (thn (ha.run pos pins s1 τ G1 _ I1 q) fun us s2 ⟨vs, G2, I2, r, q2⟩ => ⟨I2.kIn, run_fnS (us := .ref a :: us) (vs := .ref a :: vs) F hr hb (hx τ) I2 (.cons rfl r) q2⟩) hst hpl)
end
end FsT

set_option Elab.async false
set_option linter.all false
set_option maxRecDepth 100000
set_option maxHeartbeats 8000000
/-! what laws share: rows, data told by their items, lists of texts -/
namespace Fs
open PySem L2 Evl FsE FsC FsR FsK FsT
theorem takesF0 {X : Cx} : Takes X (fun _ _ _ _ => False) := fun _ _ x => by
  obtain ⟨_, _, _, _, _, _, _, _, _, _, _, _, _, _, _, _, z⟩ := x
  exact z.elim
theorem row_getB {row : List Int} {i : Nat} (hrow : RowOk row) (h : i < row.length) : ∃ v, row[i]? = some v ∧ 0 ≤ v ∧ v < 1000 :=
  ⟨row[i], List.getElem?_eq_getElem h, hrow _ (List.getElem_mem h)⟩
theorem str_at {ns : List Str} {i : Int} (h0 : 0 ≤ i) (h1 : i < (ns.length : Int)) : ∃ z, z ∈ ns ∧ atI (ns.map V.str) i = some (.str z) := by
  obtain ⟨j, rfl⟩ : ∃ j : Nat, i = (j : Int) := ⟨i.toNat, by omega⟩
  have hj : j < ns.length := by omega
  exact ⟨ns[j], List.getElem_mem hj, atI_nat (by rw [List.getElem?_map, List.getElem?_eq_getElem hj]; rfl)⟩
section
variable {σ : L2.St} {H : Hp} {te ta tb tc : TE} {tz : TS} {D : Ends} {K : PySem.W.Frag}
theorem ev_ixI {l : Addr} {xs : List Int} {j : Nat} {v : Int} (ha : Ev ta σ H (.ref l)) (hb : Ev tb σ H (.int (j : Int))) (hl : H l = some (.lst (xs.map V.int))) (hj : xs[j]? = some v) : Ev (tOp (rIxL K) ta tb) σ H (.int v) :=
  ev_op ha hb (rv_ixL (sq_of hl) (atI_nat (by rw [List.getElem?_map, hj]; rfl)))
theorem ev_ixZ {l : Addr} {xs : List Str} {j : Nat} {v : Str} (ha : Ev ta σ H (.ref l)) (hb : Ev tb σ H (.int (j : Int))) (hl : H l = some (.lst (xs.map V.str))) (hj : xs[j]? = some v) : Ev (tOp (rIxL K) ta tb) σ H (.str v) :=
  ev_op ha hb (rv_ixL (sq_of hl) (atI_nat (by rw [List.getElem?_map, hj]; rfl)))
theorem ev_int1 {K : PySem.W.Frag} {i : Int} (h : Ev ta σ H (.int i)) : Ev (tCB (fun xs H Q => (∃ i, xs = [V.int i] ∧ Q (.int i) H) ∨ ∃ k, xs = [V.bl k] ∧ Q (.int (if k then 1 else 0)) H) (tCons ta tNil)) σ H (.int i) := ev_cb (ea_cons h ea_nil) (rc_int (K := K))
/-- data that are told by their items, whatever follows -/
def EvDt (K : PySem.W.Frag) (te : TE) (σ : L2.St) (H : Hp) (d : PyData) : Prop := EvS te σ H fun v H' => ∀ H2, Ex H' H2 → Dp K H2 v d
theorem ev_neDt {d : PyData} (ha : EvDt K ta σ H d) (hb : EvDt K tb σ H d) (hs : SeqAt.shaped d = true) : Ev (tOp (rNeD K) ta tb) σ H (.bl false) := fun H1 e Q q =>
  ha H1 e _ fun x H2 e2 hx => hb H2 (e.trans e2) _ fun y H3 e3 hy => ⟨d, d, hx H3 e3, hy H3 (Ex.refl H3), hs, hs, by rw [SeqAt.eqv_refl d (SeqAt.canLay_of_shaped hs)]; exact q H3 (e2.trans e3)⟩
theorem ev_eqDt {d : PyData} (ha : EvDt K ta σ H d) (hb : EvDt K tb σ H d) (hs : SeqAt.shaped d = true) : Ev (tOp (rEqD K) ta tb) σ H (.bl true) := fun H1 e Q q =>
  ha H1 e _ fun x H2 e2 hx => hb H2 (e.trans e2) _ fun y H3 e3 hy => ⟨d, d, hx H3 e3, hy H3 (Ex.refl H3), hs, hs, by rw [SeqAt.eqv_refl d (SeqAt.canLay_of_shaped hs)]; exact q H3 (e2.trans e3)⟩
theorem edt_v {v : V} {d : PyData} (h : Ev te σ H v) (hd : ∀ H1, Ex H H1 → Dp K H1 v d) : EvDt K te σ H d := fun H1 e Q q => h H1 e _ fun H2 e2 => q v H2 e2 fun H3 e3 => hd H3 ((e.trans e2).trans e3)
theorem edt_two {x y : V} {d1 d2 : PyData} (hx : Ev ta σ H x) (hy : Ev tb σ H y) (h1 : ∀ H1, Dp K H1 x d1) (h2 : ∀ H1, Dp K H1 y d2) : EvDt K (tTup (tCons ta (tCons tb tNil))) σ H (.tuple [d1, d2]) := fun H1 e Q q =>
  hx H1 e _ fun H2 e2 => hy H2 (e.trans e2) _ fun H3 e3 => ⟨by show 2 ≤ sizeLine; decide, fun t ht => q (.ref t) _ ((e2.trans e3).trans (Ex.new ht)) fun H4 e4 => .tup (st_of (e4 _ _ upd_same)) (.cons (h1 H4) (.cons (h2 H4) .nil))⟩
theorem s_retUB {vs : List V} (h : EvU te σ H vs) (k : ∀ t H', H t = none → Ex H H' → H' t = some (.tup vs) → D.rt (.ref t) H') : tRet te D σ H := h H (Ex.refl H) D.rt k
theorem ev_maxLB {i j : Int} (h : EvL te σ H [.int i, .int j]) : Ev (tCB (rMax K) (tCons te tNil)) σ H (.int (max i j)) := fun H1 e Q q =>
  h H1 e _ fun p H2 _ e2 hp => ⟨p, [i, j], rfl, sq_of hp, by show 0 < 2; decide, fun m hm hall => by
    have em : m = max i j := by
      have h1 := hall i (List.mem_cons_self ..)
      have h3 := hall j (List.mem_cons_of_mem _ (List.mem_cons_self ..))
      rcases List.mem_cons.mp hm with rfl | hm
      · omega
      · rw [List.mem_singleton.mp hm] at h1 ⊢
        omega
    rw [em]
    exact q H2 e2⟩
theorem ev_maxB {i j : Int} (ha : Ev ta σ H (.int i)) (hb : Ev tb σ H (.int j)) : Ev (tCB (rMax K) (tCons (tLst (tCons ta (tCons tb tNil))) tNil)) σ H (.int (max i j)) := ev_maxLB (el_lst (ea_cons ha (ea_cons hb ea_nil)) (by show 2 ≤ 100000; decide))
/-- row[b * k + c] -/
theorem ev_rowk {rl : Addr} {row : List Int} {a b : Int} {i n : Nat} {i0 i4 : Nat} {v : Int} (s0 : σ[i0]? = some (some (.ref rl))) (s4 : σ[i4]? = some (some (.int (i : Int)))) (h : H rl = some (.lst (row.map V.int))) (ha : 0 ≤ a ∧ a ≤ 1000) (hn : a * (i : Int) + b = (n : Int)) (hat : row[n]? = some v) :
    Ev (tOp (rIxL K) (tVar i0) (tOp (rI0 fun i j => .int (i + j)) (tOp (rI CMul fun i j => .int (i * j)) (tC (.int a)) (tVar i4)) (tC (.int b)))) σ H (.int v) :=
  ev_op (y := .int (n : Int)) (ev_var s0) (ev_is (ev_op (x := .int (a * (i : Int))) (ev_op ev_c (ev_var s4) (rv_I (.inl ⟨by omega, by omega⟩))) ev_c rv_I0) (by show V.int (a * (i : Int) + b) = _; rw [hn])) (rv_ixL (sq_of h) (atI_nat (by rw [List.getElem?_map, hat]; rfl)))
end
def spLaw (K : PySem.W.Frag) : Sp := fun vs H Q _ => ∃ (a : Addr) (ns : List Int), vs = [.ref a] ∧ SqL K H a (ns.map V.int) ∧ ∀ H', Q (.bl true) H'
end Fs

set_option Elab.async false
set_option linter.all false
set_option maxRecDepth 100000
set_option maxHeartbeats 8000000
/-! arguments, one by one -/
namespace Fs
open PySem L2 Evl FsE FsC FsR FsK FsT
section
variable {σ : L2.St} {H : Hp} {t : TA} {te t1 t2 : TE} {q : List V → Hp → Prop} {D : Ends} {sp : Sp} {F : L2.St → XK} {C : Addr} {g : TG} {tz : TS}
theorem a_var {i : Nat} {x : V} (h : σ[i]? = some (some x)) (k : t σ H fun xs H1 => q (x :: xs) H1) : tCons (tVar i) t σ H q := ⟨x, h, k⟩
theorem a_c {v : V} (k : t σ H fun xs H1 => q (v :: xs) H1) : tCons (tC v) t σ H q := k
theorem a_nil (k : q [] H) : tNil σ H q := k
theorem a_e {v : V} (h : Ev te σ H v) (k : ∀ H1, Ex H H1 → t σ H1 fun xs H2 => q (v :: xs) H2) : tCons te t σ H q := h H (Ex.refl H) _ fun H1 e => k H1 e
theorem a_l {vs : List V} (h : EvL te σ H vs) (k : ∀ l H1, H l = none → Ex H H1 → H1 l = some (.lst vs) → t σ H1 fun xs H2 => q (.ref l :: xs) H2) : tCons te t σ H q := h H (Ex.refl H) _ fun l H1 hl e hl' => k l H1 hl e hl'
theorem a_s {Pv : V → Hp → Prop} (h : EvS te σ H Pv) (k : ∀ v H1, Ex H H1 → Pv v H1 → t σ H1 fun xs H2 => q (v :: xs) H2) : tCons te t σ H q := h H (Ex.refl H) _ fun v H1 e hv => k v H1 e hv
theorem es_st {Pv : V → Hp → Prop} (k : ∀ H1, Ex H H1 → ∀ Q : VK, (∀ v H2, Ex H1 H2 → Pv v H2 → Q v H2) → t σ H1 fun vs H2 => sp vs H2 Q (F σ)) : EvS (tStat C sp F (tC (.ref C)) t) σ H Pv := fun H1 e Q q => ⟨rfl, k H1 e Q q⟩
theorem lst0 : EvL (tLst tNil) σ H [] := el_lst ea_nil (by decide)
theorem s_asgS {i : Nat} {Pv : V → Hp → Prop} (h : EvS te σ H Pv) (k : ∀ v H1, Ex H H1 → Pv v H1 → D.nx (σ.set i (some v)) H1) : tAsg te (gName i) D σ H := h H (Ex.refl H) _ fun v H1 e1 hv => k v H1 e1 hv
end
end Fs

set_option Elab.async false
set_option linter.all false
set_option maxRecDepth 100000
set_option maxHeartbeats 2000000
namespace Fs
open PySem L2 Evl FsE FsC FsR FsT
def Opd.ok : Opd → Prop
  | .int _ => True
  | .nm z => z.length ≤ 40000
theorem Opd.opv {o : Opd} (h : o.ok) : OpV o.v := by
  cases o with
  | int i => exact True.intro
  | nm z => exact h
/-! what is refused -/
def badNew (z : Str) (k : Int) (r : Pr) : Option Str := if nameS z = true then (if seatsV (.int k) = true then badInit (.new z k r) else some "seats") else some "name"
def badWhen (l r : Opd) (y n : Pr) : Option Str := if operandV l.v = true then (if operandV r.v = true then badInit (.cond l r y n) else some "right") else some "left"
def opsOk (ops : List Opd) : Bool := decide (((ops.length : Nat) : Int) ≤ 4) && (ops.map fun o => operandV o.v).all id
def badCall (z : Str) (ops : List Opd) : Option Str := if nameS z = true then (if opsOk ops = true then badInit (.call z ops) else some "operands") else some "name"
/-! the promises -/
def spStop (C CB : Addr) : Sp := fun vs H Q E => vs = [] ∧ Made C CB none (.choice .nil) H Q E
def spNew (C CB : Addr) : Sp := fun vs H Q E => ∃ (z : Str) (k : Int) (b : Addr) (r : Pr), vs = [.str z, .int k, .ref b] ∧ z.length ≤ 40000 ∧ PrAt C H b r ∧ Made C CB (badNew z k r) (.new z k r) H Q E
def spWhen (C CB : Addr) : Sp := fun vs H Q E => ∃ (l r : Opd) (b c : Addr) (y n : Pr), vs = [l.v, r.v, .ref b, .ref c] ∧ l.ok ∧ r.ok ∧ PrAt C H b y ∧ PrAt C H c n ∧ Made C CB (badWhen l r y n) (.cond l r y n) H Q E
/-- a list or a tuple of the operands -/
def OpsAt (K : PySem.W.Frag) (H : Hp) (u : Addr) (ops : List Opd) : Prop := H u = some (.lst (ops.map Opd.v)) ∨ H u = some (.tup (ops.map Opd.v))
def spCall (K : PySem.W.Frag) (C CB : Addr) : Sp := fun vs H Q E => ∃ (z : Str) (u : Addr) (ops : List Opd), vs = [.str z, .ref u] ∧ z.length ≤ 40000 ∧ OpsAt K H u ops ∧ ops.length ≤ 90 ∧ (∀ o ∈ ops, o.ok) ∧ Made C CB (badCall z ops) (.call z ops) H Q E
/-- what the makers ask -/
structure MakT (P : Program) (w : World) (K : PySem.W.Frag) (mg : Str → Option Value) (base : Heap) (C CB : Addr) (k : Nat) : Prop where
  make : MakX P w K mg base (L2.CX P w) k "Process" C (spInit C CB)
  dem : CalX P w K mg base (L2.CX P w) k "demand" (spDemand CB)
  name : CalX P w K mg base CX0 1 "is_name" (spPred nameV)
  seats : CalX P w K mg base CX0 2 "is_seats" (spPred seatsV)
  operand : CalX P w K mg base CX0 3 "is_operand" (spPred operandV)
  int : CalX P w K mg base CX0 1 "is_int" (spPred intV)
  names : CalX P w K mg base CX0 2 "are_names" spNames
  mops : GC mg "MOST_OPERANDS" (.int 4)
  tuple : mg "tuple" = none
  len : mg "len" = none
  all : mg "all" = none
  hk : 3 ≤ k
section
variable {P : Program} {w : World} {K : PySem.W.Frag} {mg : Str → Option Value} {base : Heap} {C CB : Addr} {k : Nat}
theorem scStop : FnScope [] [] (defScope (inClass (topS 39) 1)) := ⟨rfl, rfl, rfl, by decide +kernel, rfl, by decide +kernel, by decide +kernel⟩
theorem ok_stop {f : Addr} {fd : FuncData} (F : Fun K "stop" "Process.stop" (inClass (topS 39) 1) f fd) (M : MakT P w K mg base C CB k) : FnOk P w K mg base (L2.CX P w) (k + 1 + 1) f fd [] (spStop C CB) := by
  refine F.okX scStop (fun vs H Q E h => ?_) (fun cdv A outer s H vs Q E hr h => ?_)
  · obtain ⟨rfl, _⟩ := h
    rfl
  · obtain ⟨rfl, m⟩ := h
    refine ⟨_, pss_one (ps_ret (pe_mx M.make hr (Nat.le_refl _) (by rfl) (passes_call (W := fun cls d _ H => E cls d H) (takes_of rfl rfl rfl rfl) (fun _ _ _ _ h => h)) (pa_cons pe_str (pa_cons (pe_tup pa_nil) pa_nil)))), ?_⟩
    exact ret_make (p := .choice .nil) ev_c (EvP.of (ps := []) (eu_tup ea_nil (by decide)) (by decide) rfl) m
theorem scNew : FnScope ["name", "seats", "rest"] ["name", "seats", "rest"] (defScope (inClass (topS 39) 3)) := ⟨rfl, rfl, rfl, by decide +kernel, rfl, by decide +kernel, by decide +kernel⟩
theorem Made.bad {o : Option Str} {f : Str} {p : Pr} {H : Hp} {Q : VK} {E : XK} (m : Made C CB o p H Q E) (h : o = some f) : Bad CB f H E := m.2 f h
theorem ok_new {f : Addr} {fd : FuncData} (F : Fun K "new" "Process.new" (inClass (topS 39) 3) f fd) (M : MakT P w K mg base C CB k) : FnOk P w K mg base (L2.CX P w) (k + 1 + 1) f fd ["name", "seats", "rest"] (spNew C CB) := by
  refine F.okX scNew (fun vs H Q E h => ?_) (fun cdv A outer s H vs Q E hr h => ?_)
  · obtain ⟨z, kk, b, r, rfl, _⟩ := h
    rfl
  · obtain ⟨z, kk, b, r, rfl, hz, hb, m⟩ := h
    have h3 := M.hk
    refine ⟨_, pss_cons (ps_expr (pe_cx (E := WE (fun cls d _ H => E cls d H)) M.dem hr (Nat.le_succ _) (by rfl) (fun σ => passAt (takes_of rfl rfl rfl rfl) σ) (pa_cons (pe_cx (E := fun _ => E0) M.name hr (by omega) (by rfl) at0 (pa_cons (pv 0) pa_nil)) (pa_cons pe_str pa_nil))))
      (pss_cons (ps_expr (pe_cx (E := WE (fun cls d _ H => E cls d H)) M.dem hr (Nat.le_succ _) (by rfl) (fun σ => passAt (takes_of rfl rfl rfl rfl) σ) (pa_cons (pe_cx (E := fun _ => E0) M.seats hr (by omega) (by rfl) at0 (pa_cons (pv 1) pa_nil)) (pa_cons pe_str pa_nil))))
      (pss_one (ps_ret (pe_mx M.make hr (Nat.le_refl _) (by rfl) (passes_call (W := fun cls d _ H => E cls d H) (takes_of rfl rfl rfl rfl) (fun _ _ _ _ h => h)) (pa_cons pe_str (pa_cons (pe_tup (pa_cons (pv 0) (pa_cons (pv 1) (pa_cons (pv 2) pa_nil)))) pa_nil)))))), ?_⟩
    refine q_demand (by decide +kernel) (ev_cx (ea_cons (ev_var rfl) ea_nil) (sp_pred (f := nameV) (v := .str z) hz)) (fun h1 H1 e1 => ?_) (fun h1 => m.bad (by unfold badNew; rw [if_neg (by rw [show nameS z = false from h1]; decide)]))
    refine q_demand (by decide +kernel) (ev_cx (ea_cons (ev_var rfl) ea_nil) (sp_pred (f := seatsV) (v := .int kk) True.intro)) (fun h2 H2 e2 => ?_) (fun h2 => (m.ex e1).bad (by unfold badNew; rw [if_pos (show nameS z = true from h1), if_neg (by rw [h2]; decide)]))
    have e : badNew z kk r = badInit (.new z kk r) := by unfold badNew; rw [if_pos (show nameS z = true from h1), if_pos h2]
    rw [e] at m
    exact ret_make (p := .new z kk r) ev_c (EvP.of (eu_tup (ea_cons (ev_var rfl) (ea_cons (ev_var rfl) (ea_cons (ev_var rfl) ea_nil))) (by show 3 ≤ 100000; decide)) (by show 3 ≤ 100; decide) ⟨b, rfl, hb.ex (e1.trans e2)⟩) (m.ex (e1.trans e2))
theorem scWhen : FnScope ["left", "right", "yes", "no"] ["left", "right", "yes", "no"] (defScope (inClass (topS 39) 4)) := ⟨rfl, rfl, rfl, by decide +kernel, rfl, by decide +kernel, by decide +kernel⟩
theorem ok_when {f : Addr} {fd : FuncData} (F : Fun K "when" "Process.when" (inClass (topS 39) 4) f fd) (M : MakT P w K mg base C CB k) : FnOk P w K mg base (L2.CX P w) (k + 1 + 1) f fd ["left", "right", "yes", "no"] (spWhen C CB) := by
  refine F.okX scWhen (fun vs H Q E h => ?_) (fun cdv A outer s H vs Q E hr h => ?_)
  · obtain ⟨l, r, b, c, y, n, rfl, _⟩ := h
    rfl
  · obtain ⟨l, r, b, c, y, n, rfl, hl, hrr, hb, hc, m⟩ := h
    have h3 := M.hk
    refine ⟨_, pss_cons (ps_expr (pe_cx (E := WE (fun cls d _ H => E cls d H)) M.dem hr (Nat.le_succ _) (by rfl) (fun σ => passAt (takes_of rfl rfl rfl rfl) σ) (pa_cons (pe_cx (E := fun _ => E0) M.operand hr (by omega) (by rfl) at0 (pa_cons (pv 0) pa_nil)) (pa_cons pe_str pa_nil))))
      (pss_cons (ps_expr (pe_cx (E := WE (fun cls d _ H => E cls d H)) M.dem hr (Nat.le_succ _) (by rfl) (fun σ => passAt (takes_of rfl rfl rfl rfl) σ) (pa_cons (pe_cx (E := fun _ => E0) M.operand hr (by omega) (by rfl) at0 (pa_cons (pv 1) pa_nil)) (pa_cons pe_str pa_nil))))
      (pss_one (ps_ret (pe_mx M.make hr (Nat.le_refl _) (by rfl) (passes_call (W := fun cls d _ H => E cls d H) (takes_of rfl rfl rfl rfl) (fun _ _ _ _ h => h)) (pa_cons pe_str (pa_cons (pe_tup (pa_cons (pv 0) (pa_cons (pv 1) (pa_cons (pv 2) (pa_cons (pv 3) pa_nil))))) pa_nil)))))), ?_⟩
    refine q_demand (by decide +kernel) (ev_cx (ea_cons (ev_var rfl) ea_nil) (sp_pred (f := operandV) (Opd.opv hl))) (fun h1 H1 e1 => ?_) (fun h1 => m.bad (by unfold badWhen; rw [if_neg (by rw [h1]; decide)]))
    refine q_demand (by decide +kernel) (ev_cx (ea_cons (ev_var rfl) ea_nil) (sp_pred (f := operandV) (Opd.opv hrr))) (fun h2 H2 e2 => ?_) (fun h2 => (m.ex e1).bad (by unfold badWhen; rw [if_pos h1, if_neg (by rw [h2]; decide)]))
    have e : badWhen l r y n = badInit (.cond l r y n) := by unfold badWhen; rw [if_pos h1, if_pos h2]
    rw [e] at m
    exact ret_make (p := .cond l r y n) ev_c (EvP.of (eu_tup (ea_cons (ev_var rfl) (ea_cons (ev_var rfl) (ea_cons (ev_var rfl) (ea_cons (ev_var rfl) ea_nil)))) (by show 4 ≤ 100000; decide)) (by show 4 ≤ 100; decide) ⟨b, c, rfl, hb.ex (e1.trans e2), hc.ex (e1.trans e2)⟩) (m.ex (e1.trans e2))
theorem scCall : FnScope ["name", "operands", "allowed", "part"] ["name", "operands"] (defScope (inClass (topS 39) 5)) := ⟨rfl, rfl, rfl, by decide +kernel, rfl, by decide +kernel, by decide +kernel⟩
theorem evp_call {σ : L2.St} {H : Hp} {z : Str} {u : Addr} {ops : List Opd} (h0 : σ[0]? = some (some (.str z))) (h1 : σ[1]? = some (some (.ref u))) (hu : OpsAt K H u ops) :
    EvP C (tTup (tCons (tVar 0) (tCons (tCB (fun xs H Q => ∃ p ys, xs = [V.ref p] ∧ ((SqL K H p ys ∧ ∀ l, H l = none → Q (.ref l) (upd H l (.tup ys))) ∨ SqT K H p ys ∧ Q (.ref p) H)) (tCons (tVar 1) tNil)) tNil))) σ H (.call z ops) := fun H1 e Q q => by
  rcases hu with hu | hu
  · refine ⟨_, h0, _, h1, u, ops.map Opd.v, rfl, .inl ⟨sq_of (e _ _ hu), fun l hl => ⟨(by show 2 ≤ sizeLine; decide), fun p hp => ?_⟩⟩⟩
    have hpl : l ≠ p := fun z => by rw [← z, upd_same] at hp; cases hp
    refine q p _ [.str z, .ref l] (fresh_back (Ex.new hl) hp) ((Ex.new hl).trans (Ex.new hp)) upd_same (by show 2 ≤ 100; decide) ⟨l, rfl, ?_⟩
    rw [upd_ne hpl]
    exact upd_same
  · refine ⟨_, h0, _, h1, u, ops.map Opd.v, rfl, .inr ⟨st_of (e _ _ hu), (by show 2 ≤ sizeLine; decide), fun p hp => ?_⟩⟩
    exact q p _ [.str z, .ref u] hp (Ex.new hp) upd_same (by show 2 ≤ 100; decide) ⟨u, rfl, Ex.new hp _ _ (e _ _ hu)⟩
theorem OpsAt.ex {H H' : Hp} {u : Addr} {ops : List Opd} (e : Ex H H') (h : OpsAt K H u ops) : OpsAt K H' u ops := h.imp (e _ _) (e _ _)
theorem ops_at {H : Hp} {ops : List Opd} (ho : ∀ o ∈ ops, o.ok) {i : Nat} {x y : V} (hx : (ops.map Opd.v)[i]? = some x) (hy : ((ops.map fun o => operandV o.v).map V.bl)[i]? = some y) : OpV x ∧ y = .bl (operandV x) := by
  rw [List.map_map, List.getElem?_map] at hy
  rw [List.getElem?_map] at hx
  cases hq : ops[i]? with
  | none =>
    rw [hq] at hx
    cases hx
  | some o =>
    rw [hq] at hx hy
    have ex : o.v = x := Option.some.inj hx
    have ey : V.bl (operandV o.v) = y := Option.some.inj hy
    subst ex
    exact ⟨Opd.opv (ho o (List.mem_of_getElem? hq)), ey.symm⟩
theorem ok_call {f : Addr} {fd : FuncData} (F : Fun K "call" "Process.call" (inClass (topS 39) 5) f fd) (M : MakT P w K mg base C CB k) : FnOk P w K mg base (L2.CX P w) (k + 1 + 1) f fd ["name", "operands"] (spCall K C CB) := by
  refine F.okX scCall (fun vs H Q E h => ?_) (fun cdv A outer s H vs Q E hr h => ?_)
  · obtain ⟨z, u, ops, rfl, _⟩ := h
    rfl
  · obtain ⟨z, u, ops, rfl, hz, hu, hl, ho, m⟩ := h
    have h3 := M.hk
    have bad1 : nameV (.str z) = false → Bad CB "name" H E := fun h1 => m.bad (by unfold badCall; rw [if_neg (by rw [show nameS z = false from h1]; decide)])
    have bad2 : nameV (.str z) = true → ∀ H1, Ex H H1 → opsOk ops = false → Bad CB "operands" H1 E := fun h1 H1 e1 h2 => (m.ex e1).bad (by unfold badCall; rw [if_pos (show nameS z = true from h1), if_neg (by rw [h2]; decide)])
    have good : nameV (.str z) = true → opsOk ops = true → ∀ H2, Ex H H2 → Made C CB (badInit (.call z ops)) (.call z ops) H2 Q E := fun h1 h2 H2 e2 => by
      have e : badCall z ops = badInit (.call z ops) := by unfold badCall; rw [if_pos (show nameS z = true from h1), if_pos h2]
      rw [e] at m
      exact m.ex e2
    have hlen : (ops.map Opd.v).length ≤ 40000 := by rw [List.length_map]; omega
    have hlen2 : ((ops.map fun o => operandV o.v).map V.bl).length = (ops.map Opd.v).length := by simp
    have hbs : ((((ops.map Opd.v).length : Nat) : Int)) = ((ops.length : Nat) : Int) := by rw [List.length_map]
    rcases hu with hu | hu
    · refine ⟨_, pss_cons (ps_expr (pe_cx (E := WE (fun cls d _ H => E cls d H)) M.dem hr (Nat.le_succ _) (by rfl) (fun σ => passAt (takes_of rfl rfl rfl rfl) σ) (pa_cons (pe_cx (E := fun _ => E0) M.name hr (by omega) (by rfl) at0 (pa_cons (pv 0) pa_nil)) (pa_cons pe_str pa_nil))))
        (pss_cons (ps_set (i := 2) scCall.nd rfl (Or.inl rfl) (pe_and (pe_cmpR op_le (pe_callB call_len_seq (by rfl) M.len PySem.boot_len (pa_cons (pv 1) pa_nil)) (C8.pe_gc (by rfl) M.mops) (nomark _)) (pe_one (pe_callB (cr_all rfl) (by rfl) M.all (by decide +kernel) (pa_cons
          (pe_lc (own := [("part", 3)]) (g := gName 3) (tt := tYes) (te := tCallS (spPred operandV) (fun _ => E0) (tCons (tVar 3) tNil)) rfl scCall.nd (pi_list (pv 1)) (blkOk_by (own := [("part", 3)]) (N := ["name", "operands", "allowed", "part"]) (sc := defScope (inClass (topS 39) 5)) (by decide +kernel))
            (fun _ _ _ _ _ => pg_name (i := 3) scCall.nd rfl (Or.inl rfl)) (fun _ _ _ _ _ => pts_nil) (fun _ _ _ _ _ => pe_cx (E := fun _ => E0) M.operand hr (by omega) (by rfl) at0 (pa_cons (pv 3) pa_nil))) pa_nil)))))
        (pss_cons (ps_expr (pe_cx (E := WE (fun cls d _ H => E cls d H)) M.dem hr (Nat.le_succ _) (by rfl) (fun σ => passAt (takes_of rfl rfl rfl rfl) σ) (pa_cons (pv 2) (pa_cons pe_str pa_nil))))
        (pss_one (ps_ret (pe_mx M.make hr (Nat.le_refl _) (by rfl) (passes_call (W := fun cls d _ H => E cls d H) (takes_of rfl rfl rfl rfl) (fun _ _ _ _ h => h)) (pa_cons pe_str (pa_cons (pe_tup (pa_cons (pv 0) (pa_cons (pe_callTy call_tuple_of (by rfl) M.tuple (by decide +kernel) (pa_cons (pv 1) pa_nil)) pa_nil))) pa_nil))))))), ?_⟩
      refine q_demand (by decide +kernel) (ev_cx (ea_cons (ev_var rfl) ea_nil) (sp_pred (f := nameV) (v := .str z) hz)) (fun h1 H1 e1 => ?_) bad1
      have hu1 := e1 _ _ hu
      refine q_asg (v := .bl (opsOk ops)) (ev_andV (ev_is (ev_op (ev_is (ev_cb (ea_cons (ev_var rfl) ea_nil) (fun H2 e2 Q' q' => ⟨u, _, rfl, .inl (sq_of (e2 _ _ hu1)), q' H2 (Ex.refl H2)⟩)) (by rw [hbs])) ev_c rv_I0) rfl) (fun _ => ev_all (bs := ops.map fun o => operandV o.v)
        (el_lcLy (ev_var rfl) (sq_of hu1) hlen (fun _ => rfl) hlen2 (fun i x y H2 e2 hx hy => ?_)))) (fun H2 e2 => ?_)
      · obtain ⟨a1, a2⟩ := ops_at (H := H) ho hx hy
        rw [a2]
        exact ev_cx (ea_cons (ev_var rfl) ea_nil) (sp_pred a1)
      · refine q_demand (by decide +kernel) (ev_var rfl) (fun h2 H3 e3 => ?_) (bad2 h1 H2 (e1.trans e2))
        exact ret_make (p := .call z ops) ev_c (evp_call rfl rfl (OpsAt.ex ((e1.trans e2).trans e3) (.inl hu))) (good h1 h2 H3 ((e1.trans e2).trans e3))
    · refine ⟨_, pss_cons (ps_expr (pe_cx (E := WE (fun cls d _ H => E cls d H)) M.dem hr (Nat.le_succ _) (by rfl) (fun σ => passAt (takes_of rfl rfl rfl rfl) σ) (pa_cons (pe_cx (E := fun _ => E0) M.name hr (by omega) (by rfl) at0 (pa_cons (pv 0) pa_nil)) (pa_cons pe_str pa_nil))))
        (pss_cons (ps_set (i := 2) scCall.nd rfl (Or.inl rfl) (pe_and (pe_cmpR op_le (pe_callB call_len_seq (by rfl) M.len PySem.boot_len (pa_cons (pv 1) pa_nil)) (C8.pe_gc (by rfl) M.mops) (nomark _)) (pe_one (pe_callB (cr_all rfl) (by rfl) M.all (by decide +kernel) (pa_cons
          (pe_lc (own := [("part", 3)]) (g := gName 3) (tt := tYes) (te := tCallS (spPred operandV) (fun _ => E0) (tCons (tVar 3) tNil)) rfl scCall.nd (pi_tup (pv 1)) (blkOk_by (own := [("part", 3)]) (N := ["name", "operands", "allowed", "part"]) (sc := defScope (inClass (topS 39) 5)) (by decide +kernel))
            (fun _ _ _ _ _ => pg_name (i := 3) scCall.nd rfl (Or.inl rfl)) (fun _ _ _ _ _ => pts_nil) (fun _ _ _ _ _ => pe_cx (E := fun _ => E0) M.operand hr (by omega) (by rfl) at0 (pa_cons (pv 3) pa_nil))) pa_nil)))))
        (pss_cons (ps_expr (pe_cx (E := WE (fun cls d _ H => E cls d H)) M.dem hr (Nat.le_succ _) (by rfl) (fun σ => passAt (takes_of rfl rfl rfl rfl) σ) (pa_cons (pv 2) (pa_cons pe_str pa_nil))))
        (pss_one (ps_ret (pe_mx M.make hr (Nat.le_refl _) (by rfl) (passes_call (W := fun cls d _ H => E cls d H) (takes_of rfl rfl rfl rfl) (fun _ _ _ _ h => h)) (pa_cons pe_str (pa_cons (pe_tup (pa_cons (pv 0) (pa_cons (pe_callTy call_tuple_of (by rfl) M.tuple (by decide +kernel) (pa_cons (pv 1) pa_nil)) pa_nil))) pa_nil))))))), ?_⟩
      refine q_demand (by decide +kernel) (ev_cx (ea_cons (ev_var rfl) ea_nil) (sp_pred (f := nameV) (v := .str z) hz)) (fun h1 H1 e1 => ?_) bad1
      have hu1 := e1 _ _ hu
      refine q_asg (v := .bl (opsOk ops)) (ev_andV (ev_is (ev_op (ev_is (ev_cb (ea_cons (ev_var rfl) ea_nil) (fun H2 e2 Q' q' => ⟨u, _, rfl, .inr (st_of (e2 _ _ hu1)), q' H2 (Ex.refl H2)⟩)) (by rw [hbs])) ev_c rv_I0) rfl) (fun _ => ev_all (bs := ops.map fun o => operandV o.v)
        (el_lcTy (ev_var rfl) (st_of hu1) hlen (fun _ => rfl) hlen2 (fun i x y H2 e2 hx hy => ?_)))) (fun H2 e2 => ?_)
      · obtain ⟨a1, a2⟩ := ops_at (H := H) ho hx hy
        rw [a2]
        exact ev_cx (ea_cons (ev_var rfl) ea_nil) (sp_pred a1)
      · refine q_demand (by decide +kernel) (ev_var rfl) (fun h2 H3 e3 => ?_) (bad2 h1 H2 (e1.trans e2))
        exact ret_make (p := .call z ops) ev_c (evp_call rfl rfl (OpsAt.ex ((e1.trans e2).trans e3) (.inr hu))) (good h1 h2 H3 ((e1.trans e2).trans e3))
def badOffer (z : Str) (s m : Int) (op : Opd) (ns : List Str) (r : Pr) : Option Str :=
  if nameS z = true then (if seatsV (.int m) = true then (if (decide (0 ≤ s) && decide (s < m)) = true then (if operandV op.v = true then (if (decide ((ns.length : Int) = m - 1) && namesS ns) = true then badInit (.choice (.cons z s m op ns r .nil)) else some "names") else some "operand") else some "seat") else some "seats") else some "channel"
def spOffer (C CB : Addr) : Sp := fun vs H Q E => ∃ (z : Str) (s m : Int) (op : Opd) (u : Addr) (ns : List Str) (b : Addr) (r : Pr), vs = [.str z, .int s, .int m, op.v, .ref u, .ref b] ∧ z.length ≤ 40000 ∧ op.ok ∧ NmsAt H u ns ∧ ns.length ≤ 90 ∧ (∀ y ∈ ns, y.length ≤ 40000) ∧ PrAt C H b r ∧
  Made C CB (badOffer z s m op ns r) (.choice (.cons z s m op ns r .nil)) H Q E
theorem scOffer : FnScope ["channel", "seat", "seats", "operand", "names", "rest"] ["channel", "seat", "seats", "operand", "names", "rest"] (defScope (inClass (topS 39) 2)) := ⟨rfl, rfl, rfl, by decide +kernel, rfl, by decide +kernel, by decide +kernel⟩
/-- the parts: one offer -/
theorem evp_offer {σ : L2.St} {H : Hp} {z : Str} {s m : Int} {op : Opd} {u b : Addr} {ns : List Str} {r : Pr} (h0 : σ[0]? = some (some (.str z))) (h1 : σ[1]? = some (some (.int s))) (h2 : σ[2]? = some (some (.int m))) (h3 : σ[3]? = some (some op.v)) (h4 : σ[4]? = some (some (.ref u))) (h5 : σ[5]? = some (some (.ref b)))
    (hu : NmsAt H u ns) (hb : PrAt C H b r) : EvP C (tTup (tCons (tTup (tCons (tVar 0) (tCons (tVar 1) (tCons (tVar 2) (tCons (tVar 3) (tCons (tCB (fun xs H Q => ∃ p ys, xs = [V.ref p] ∧ ((SqL K H p ys ∧ ∀ l, H l = none → Q (.ref l) (upd H l (.tup ys))) ∨ SqT K H p ys ∧ Q (.ref p) H)) (tCons (tVar 4) tNil)) (tCons (tVar 5) tNil)))))))
      tNil)) σ H (.choice (.cons z s m op ns r .nil)) := fun H1 e Q q => by
  have one : ∀ (l : Addr) (H2 : Hp), Ex H1 H2 → H2 l = some (.tup (ns.map V.str)) → ∀ o : Addr, H2 o = none → ∀ p : Addr, upd H2 o (.tup [.str z, .int s, .int m, op.v, .ref l, .ref b]) p = none → Q (.ref p) (upd (upd H2 o (.tup [.str z, .int s, .int m, op.v, .ref l, .ref b])) p (.tup [.ref o])) := fun l H2 e2 hl o ho p hp => by
    have e3 : Ex H2 (upd (upd H2 o (.tup [.str z, .int s, .int m, op.v, .ref l, .ref b])) p (.tup [.ref o])) := (Ex.new ho).trans (Ex.new hp)
    refine q p _ [.ref o] (fresh_back (e2.trans (Ex.new ho)) hp) (e2.trans e3) upd_same (by show 1 ≤ 100; decide) ?_
    show OfsAt C _ [.ref o] (.cons z s m op ns r .nil)
    unfold OfsAt
    exact ⟨o, l, b, [], rfl, Ex.new hp _ _ upd_same, e3 _ _ hl, hb.ex ((e.trans e2).trans e3), by unfold OfsAt; rfl⟩
  rcases hu with hu | hu
  · exact ⟨_, h0, _, h1, _, h2, _, h3, _, h4, u, ns.map V.str, rfl, .inl ⟨sq_of (e _ _ hu), fun l hl => ⟨_, h5, by show 6 ≤ sizeLine; decide, fun o ho => ⟨by show 1 ≤ sizeLine; decide, fun p hp => one l _ (Ex.new hl) upd_same o ho p hp⟩⟩⟩⟩
  · exact ⟨_, h0, _, h1, _, h2, _, h3, _, h4, u, ns.map V.str, rfl, .inr ⟨st_of (e _ _ hu), _, h5, by show 6 ≤ sizeLine; decide, fun o ho => ⟨by show 1 ≤ sizeLine; decide, fun p hp => one u _ (Ex.refl _) (e _ _ hu) o ho p hp⟩⟩⟩
theorem ok_offer {f : Addr} {fd : FuncData} (F : Fun K "offer" "Process.offer" (inClass (topS 39) 2) f fd) (M : MakT P w K mg base C CB k) : FnOk P w K mg base (L2.CX P w) (k + 1 + 1) f fd ["channel", "seat", "seats", "operand", "names", "rest"] (spOffer C CB) := by
  refine F.okX scOffer (fun vs H Q E h => ?_) (fun cdv A outer s H vs Q E hr h => ?_)
  · obtain ⟨z, s', m, op, u, ns, b, r, rfl, _⟩ := h
    rfl
  · obtain ⟨z, s', m, op, u, ns, b, r, rfl, hz, ho, hu, hl, hy, hb, md⟩ := h
    have h3 := M.hk
    have hlen : ∀ {H2 : Hp}, Ex H H2 → Ev (tCB (fun xs H Q => ∃ a ys, xs = [V.ref a] ∧ (SqL K H a ys ∨ SqT K H a ys) ∧ Q (.int (ys.length : Nat)) H) (tCons (tVar 4) tNil)) [some (.str z), some (.int s'), some (.int m), some op.v, some (.ref u), some (.ref b)] H2 (.int (ns.length : Int)) := fun e2 =>
      ev_is (ev_cb (ea_cons (ev_var rfl) ea_nil) (fun H5 e5 Q' q' => ⟨u, _, rfl, (hu.ex (e2.trans e5)).sq, q' H5 (Ex.refl H5)⟩)) (by rw [List.length_map])
    refine ⟨_, pss_cons (ps_expr (pe_cx (E := WE (fun cls d _ H => E cls d H)) M.dem hr (Nat.le_succ _) (by rfl) (fun σ => passAt (takes_of rfl rfl rfl rfl) σ) (pa_cons (pe_cx (E := fun _ => E0) M.name hr (by omega) (by rfl) at0 (pa_cons (pv 0) pa_nil)) (pa_cons pe_str pa_nil))))
      (pss_cons (ps_expr (pe_cx (E := WE (fun cls d _ H => E cls d H)) M.dem hr (Nat.le_succ _) (by rfl) (fun σ => passAt (takes_of rfl rfl rfl rfl) σ) (pa_cons (pe_cx (E := fun _ => E0) M.seats hr (by omega) (by rfl) at0 (pa_cons (pv 2) pa_nil)) (pa_cons pe_str pa_nil))))
      (pss_cons (ps_expr (pe_cx (E := WE (fun cls d _ H => E cls d H)) M.dem hr (Nat.le_succ _) (by rfl) (fun σ => passAt (takes_of rfl rfl rfl rfl) σ) (pa_cons (pe_and (pe_cx (E := fun _ => E0) M.int hr (by omega) (by rfl) at0 (pa_cons (pv 1) pa_nil)) (pe_one (pe_chain op_le op_lt pe_int (pv 1) (pv 2)))) (pa_cons pe_str pa_nil))))
      (pss_cons (ps_expr (pe_cx (E := WE (fun cls d _ H => E cls d H)) M.dem hr (Nat.le_succ _) (by rfl) (fun σ => passAt (takes_of rfl rfl rfl rfl) σ) (pa_cons (pe_cx (E := fun _ => E0) M.operand hr (by omega) (by rfl) at0 (pa_cons (pv 3) pa_nil)) (pa_cons pe_str pa_nil))))
      (pss_cons (ps_expr (pe_cx (E := WE (fun cls d _ H => E cls d H)) M.dem hr (Nat.le_succ _) (by rfl) (fun σ => passAt (takes_of rfl rfl rfl rfl) σ) (pa_cons (pe_and (pe_cmpR op_eq (pe_callB call_len_seq (by rfl) M.len PySem.boot_len (pa_cons (pv 4) pa_nil)) (pe_op op_sub (pv 2) pe_int) (nomark _)) (pe_one (pe_cx (E := fun _ => E0) M.names hr (by omega) (by rfl) at0 (pa_cons (pv 4) pa_nil)))) (pa_cons pe_str pa_nil))))
      (pss_one (ps_ret (pe_mx M.make hr (Nat.le_refl _) (by rfl) (passes_call (W := fun cls d _ H => E cls d H) (takes_of rfl rfl rfl rfl) (fun _ _ _ _ h => h)) (pa_cons pe_str (pa_cons (pe_tup (pa_cons (pe_tup (pa_cons (pv 0) (pa_cons (pv 1) (pa_cons (pv 2) (pa_cons (pv 3) (pa_cons (pe_callTy call_tuple_of (by rfl) M.tuple (by decide +kernel) (pa_cons (pv 4) pa_nil)) (pa_cons (pv 5) pa_nil))))))) pa_nil)) pa_nil))))))))), ?_⟩
    refine q_demand (by decide +kernel) (ev_cx (ea_cons (ev_var rfl) ea_nil) (sp_pred (f := nameV) (v := .str z) hz)) (fun h1 H1 e1 => ?_) (fun h1 => md.bad (by unfold badOffer; rw [if_neg (by rw [show nameS z = false from h1]; decide)]))
    have g1 : nameS z = true := h1
    refine q_demand (by decide +kernel) (ev_cx (ea_cons (ev_var rfl) ea_nil) (sp_pred (f := seatsV) (v := .int m) True.intro)) (fun h2 H2 e2 => ?_) (fun h2 => (md.ex e1).bad (by unfold badOffer; rw [if_pos g1, if_neg (by rw [h2]; decide)]))
    have x2 := e1.trans e2
    refine q_demand (b := decide (0 ≤ s') && decide (s' < m)) (by decide +kernel) (ev_andV (a := true) (ev_cx (ea_cons (ev_var rfl) ea_nil) (sp_pred (f := intV) (v := .int s') True.intro)) (fun _ => ev_chain ev_c (ev_var rfl) rv_I0 (fun _ => ev_var rfl) (fun _ => rv_I0))) (fun h4 H3 e3 => ?_) (fun h4 => (md.ex x2).bad (by unfold badOffer; rw [if_pos g1, if_pos h2, if_neg (by rw [h4]; decide)]))
    have x3 := x2.trans e3
    refine q_demand (by decide +kernel) (ev_cx (ea_cons (ev_var rfl) ea_nil) (sp_pred (f := operandV) (v := op.v) (Opd.opv ho))) (fun h5 H4 e4 => ?_) (fun h5 => (md.ex x3).bad (by unfold badOffer; rw [if_pos g1, if_pos h2, if_pos h4, if_neg (by rw [h5]; decide)]))
    have x4 := x3.trans e4
    refine q_demand (b := decide ((ns.length : Int) = m - 1) && namesS ns) (by decide +kernel) (ev_andV (ev_is (ev_op (hlen x4) (ev_op (ev_var rfl) ev_c rv_I0) (rv_eq rfl)) (congrArg V.bl (decide_eq_decide.mpr ⟨fun z => (V.int.inj z), fun z => congrArg V.int z⟩))) (fun _ => ev_cx (ea_cons (ev_var rfl) ea_nil) (fun H5 e5 Q' q' E' => ⟨u, ns, rfl, hu.ex (x4.trans e5), hl, hy, fun H6 e6 => q' H6 e6⟩)))
      (fun h6 H5 e5 => ?_) (fun h6 => (md.ex x4).bad (by unfold badOffer; rw [if_pos g1, if_pos h2, if_pos h4, if_pos h5, if_neg (by rw [h6]; decide)]))
    have x5 := x4.trans e5
    have e : badOffer z s' m op ns r = badInit (.choice (.cons z s' m op ns r .nil)) := by unfold badOffer; rw [if_pos g1, if_pos h2, if_pos h4, if_pos h5, if_pos h6]
    rw [e] at md
    exact ret_make (p := .choice (.cons z s' m op ns r .nil)) ev_c (evp_offer rfl rfl rfl rfl rfl rfl (hu.ex x5) (hb.ex x5)) (md.ex x5)
end
end Fs

set_option Elab.async false
set_option linter.all false
set_option maxRecDepth 100000
set_option maxHeartbeats 16000000
/-! the law's parts: a body drawn -/
namespace Fs
open PySem L2 Evl FsE FsC FsR FsA FsD FsU FsK StX FsI FsT
def oneP (way : Int) (z : Str) : Pr := if way = 0 then .new "n" 2 (.call z []) else if way = 3 then .choice (.cons "c" 0 1 (.int 5) [] (.call z []) .nil) else if way = 4 then .new "n" 1 (.choice (.cons "n" 0 1 (.int 5) [] (.call z []) .nil)) else if way = 5 then .choice .nil else .call z []
theorem dcs_one {way : Int} {z : Str} (h0 : 0 ≤ way) (h6 : way < 6) : dcs (oneP way z) = if way < 3 then [z] else [] := by
  have hc : way = 0 ∨ way = 1 ∨ way = 2 ∨ way = 3 ∨ way = 4 ∨ way = 5 := by omega
  rcases hc with rfl | rfl | rfl | rfl | rfl | rfl <;> rfl
/-- what a part of a body keeps to -/
structure OkP (ns : List Str) (d s : Int) (p : Pr) : Prop where
  dep : p.depth ≤ d
  siz : p.size ≤ s
  sh : p.sh
  dc : ∀ y ∈ dcs p, y ∈ ns
  f : ∀ (ds : Ds) (cn : List Str), ("c" : Str) ∈ cn → (∀ y ∈ ns, ∃ d, lkD ds y = some ([], d)) → fPr ds cn p = none
theorem fCall_ok {ds : Ds} {bs : List Str} {z : Str} {d : Pr} (h : lkD ds z = some ([], d)) : fCall ds bs z [] = none := by
  unfold fCall
  rw [h]
  rfl
theorem unb_in {bs : List Str} {z : Str} {i : Int} (h : z ∈ bs) : unb bs [.nm z, .int i] = none := by
  show (if z ∈ bs then unb bs [.int i] else some z) = none
  rw [if_pos h]
  rfl
theorem ok_one {ns : List Str} {way : Int} {z : Str} (h0 : 0 ≤ way) (h6 : way < 6) (hz : z ∈ ns) (hl : z.length ≤ 1000) : OkP ns 4 10 (oneP way z) := by
  have hc : way = 0 ∨ way = 1 ∨ way = 2 ∨ way = 3 ∨ way = 4 ∨ way = 5 := by omega
  have z1 : ∀ y ∈ ([z] : List Str), y ∈ ns := fun y hy => by
    rw [List.mem_singleton.mp hy]
    exact hz
  have cal : OkP ns 4 10 (.call z []) := ⟨by simp only [Pr.depth]; decide, by simp only [Pr.size]; decide, ⟨hl, by decide, fun o ho => nomatch ho⟩, z1, fun ds cn _ h => by
    obtain ⟨d, hd⟩ := h z hz
    rw [fPr]
    exact fCall_ok hd⟩
  rcases hc with rfl | rfl | rfl | rfl | rfl | rfl
  · exact ⟨by show (Pr.new "n" 2 (.call z [])).depth ≤ 4; simp only [Pr.depth]; decide, by show (Pr.new "n" 2 (.call z [])).size ≤ 10; simp only [Pr.size]; decide, ⟨by decide +kernel, cal.sh⟩, z1, fun ds cn hc h => by
      show fPr ds cn (.new "n" 2 (.call z [])) = none
      rw [fPr]
      exact cal.f ds _ (List.mem_append_left _ hc) h⟩
  · exact cal
  · exact cal
  · exact ⟨by show (Pr.choice (.cons "c" 0 1 (.int 5) [] (.call z []) .nil)).depth ≤ 4; simp only [Pr.depth, Ofs.depth]; decide, by show (Pr.choice (.cons "c" 0 1 (.int 5) [] (.call z []) .nil)).size ≤ 10; simp only [Pr.size, Ofs.len, Ofs.sum]; decide, ⟨by decide +kernel, True.intro, by decide, cal.sh, True.intro⟩, (fun y hy => nomatch hy), fun ds cn hc h => by
      show fPr ds cn (.choice (.cons "c" 0 1 (.int 5) [] (.call z []) .nil)) = none
      rw [fPr, fOfs, unb_in hc, List.append_nil, cal.f ds _ hc h, fOfs]
      rfl⟩
  · exact ⟨by show (Pr.new "n" 1 (.choice (.cons "n" 0 1 (.int 5) [] (.call z []) .nil))).depth ≤ 4; simp only [Pr.depth, Ofs.depth]; decide, by show (Pr.new "n" 1 (.choice (.cons "n" 0 1 (.int 5) [] (.call z []) .nil))).size ≤ 10; simp only [Pr.size, Ofs.len, Ofs.sum]; decide, ⟨by decide +kernel, by decide +kernel, True.intro, by decide, cal.sh, True.intro⟩, (fun y hy => nomatch hy), fun ds cn hc h => by
      show fPr ds cn (.new "n" 1 (.choice (.cons "n" 0 1 (.int 5) [] (.call z []) .nil))) = none
      rw [fPr, fPr, fOfs, unb_in (List.mem_append_right _ (List.mem_singleton.mpr rfl)), List.append_nil, cal.f ds _ (List.mem_append_left _ hc) h, fOfs]
      rfl⟩
  · exact ⟨by show (Pr.choice .nil).depth ≤ 4; simp only [Pr.depth, Ofs.depth]; decide, by show (Pr.choice .nil).size ≤ 10; simp only [Pr.size, Ofs.len, Ofs.sum]; decide, True.intro, (fun y hy => nomatch hy), fun ds cn hc h => by
      show fPr ds cn (.choice .nil) = none
      rw [fPr, fOfs]⟩
theorem bi {p : Pr} (h : p.depth ≤ 20) (g : p.size ≤ 400) : badInit p = none := by
  unfold badInit
  rw [if_pos h, if_pos g]
theorem opV5 {i : Int} (h : -10 ≤ i ∧ i ≤ 10) : operandV (Opd.int i).v = true := by
  have e1 : (decide (-(10 ^ 30) < i)) = true := decide_eq_true (by have := (by decide : (10 : Int) < 10 ^ 30); omega)
  have e2 : (decide (i < 10 ^ 30)) = true := decide_eq_true (by have := (by decide : (10 : Int) < 10 ^ 30); omega)
  show ((decide (-(10 ^ 30) < i) && decide (i < 10 ^ 30)) || nameV (.int i)) = true
  rw [e1, e2]
  rfl
theorem opV_nm {z : Str} : operandV (Opd.nm z).v = nameS z := by
  show (false || nameS z) = _
  rfl
theorem bCall {z : Str} {ops : List Opd} (h : nameS z = true) (ho : opsOk ops = true) : badCall z ops = none := by
  unfold badCall
  rw [if_pos h, if_pos ho]
  exact bi (by rw [Pr.depth]; decide) (by rw [Pr.size]; decide)
theorem bNew {z : Str} {k : Int} {r : Pr} (h : nameS z = true) (hs : seatsV (.int k) = true) (hd : (Pr.new z k r).depth ≤ 20) (hz : (Pr.new z k r).size ≤ 400) : badNew z k r = none := by
  unfold badNew
  rw [if_pos h, if_pos hs]
  exact bi hd hz
theorem bOff {z : Str} {r : Pr} (h : nameS z = true) (hd : (Pr.choice (.cons z 0 1 (.int 5) [] r .nil)).depth ≤ 20) (hz : (Pr.choice (.cons z 0 1 (.int 5) [] r .nil)).size ≤ 400) : badOffer z 0 1 (.int 5) [] r = none := by
  unfold badOffer
  rw [if_pos h, if_pos (by decide), if_pos (by decide), if_pos (opV5 (by decide)), if_pos (by decide +kernel)]
  exact bi hd hz
theorem bWhen {l r : Opd} {y n : Pr} (h1 : operandV l.v = true) (h2 : operandV r.v = true) (hd : (Pr.cond l r y n).depth ≤ 20) (hz : (Pr.cond l r y n).size ≤ 400) : badWhen l r y n = none := by
  unfold badWhen
  rw [if_pos h1, if_pos h2]
  exact bi hd hz
section
variable {σ : L2.St} {H : Hp} {K : PySem.W.Frag} {C CB : Addr} {F : L2.St → XK} {te tb tc t1 t2 : TE} {p r y n : Pr}
theorem made_s {o : Option Str} {Q : VK} {E : XK} (ho : o = none) (q : ∀ v H2, Ex H H2 → PvAt C H2 v p → Q v H2) : Made C CB o p H Q E := ⟨fun _ a H3 _ e3 h3 => q _ H3 e3 ⟨a, rfl, h3⟩, fun f hf => by rw [ho] at hf; cases hf⟩
theorem es_call0 {z : Str} (h : Ev te σ H (.str z)) (hz : nameS z = true) (hl : z.length ≤ 40000) : EvS (tStat C (spCall K C CB) F (tC (.ref C)) (tCons te (tCons (tLst tNil) tNil))) σ H (fun v H' => PvAt C H' v (.call z [])) :=
  es_st fun H1 e Q q => a_e (fun H2 e2 => h H2 (e.trans e2)) fun H2 e2 => a_l lst0 fun u H3 hu e3 h3 => a_nil ⟨z, u, [], rfl, hl, .inl h3, by decide, (fun o ho => nomatch ho), made_s (bCall hz (by decide)) fun v H4 e4 hv => q v H4 ((e2.trans e3).trans e4) hv⟩
theorem es_newN {k : Int} (h : EvS te σ H (fun v H' => PvAt C H' v r)) (hb : badNew "n" k r = none) : EvS (tStat C (spNew C CB) F (tC (.ref C)) (tCons (tC (.str "n")) (tCons (tC (.int k)) (tCons te tNil)))) σ H (fun v H' => PvAt C H' v (.new "n" k r)) :=
  es_st fun H1 e Q q => a_c (a_c (a_s (fun H2 e2 => h H2 (e.trans e2)) fun v H2 e2 ⟨b, hv, hr⟩ => by
    subst hv
    exact a_nil ⟨"n", k, b, r, rfl, by decide +kernel, hr, made_s hb fun v H4 e4 hv => q v H4 (e2.trans e4) hv⟩))
theorem es_off {z : Str} (h : EvS te σ H (fun v H' => PvAt C H' v r)) (hl : z.length ≤ 40000) (hb : badOffer z 0 1 (.int 5) [] r = none) : EvS (tStat C (spOffer C CB) F (tC (.ref C)) (tCons (tC (.str z)) (tCons (tC (.int 0)) (tCons (tC (.int 1)) (tCons (tC (.int 5)) (tCons (tLst tNil) (tCons te tNil))))))) σ H (fun v H' => PvAt C H' v (.choice (.cons z 0 1 (.int 5) [] r .nil))) :=
  es_st fun H1 e Q q => a_c (a_c (a_c (a_c (a_l lst0 fun u H2 hu e2 h2 => a_s (fun H3 e3 => h H3 ((e.trans e2).trans e3)) fun v H3 e3 ⟨b, hv, hr⟩ => by
    subst hv
    exact a_nil ⟨z, 0, 1, .int 5, u, [], b, r, rfl, hl, True.intro, .inl (e3 _ _ h2), by decide, (fun o ho => nomatch ho), hr, made_s hb fun v H4 e4 hv => q v H4 ((e2.trans e3).trans e4) hv⟩))))
theorem es_stop : EvS (tStat C (spStop C CB) F (tC (.ref C)) tNil) σ H (fun v H' => PvAt C H' v (.choice .nil)) := es_st fun H1 e Q q => a_nil ⟨rfl, made_s rfl q⟩
theorem es_when {l r : Opd} (h1 : EvS t1 σ H (fun v H' => PvAt C H' v y)) (h2 : EvS t2 σ H (fun v H' => PvAt C H' v n)) (hl : l.ok) (hr : r.ok) (hb : badWhen l r y n = none) : EvS (tStat C (spWhen C CB) F (tC (.ref C)) (tCons (tC l.v) (tCons (tC r.v) (tCons t1 (tCons t2 tNil))))) σ H (fun v H' => PvAt C H' v (.cond l r y n)) :=
  es_st fun H1 e Q q => a_c (a_c (a_s (fun H2 e2 => h1 H2 (e.trans e2)) fun v H2 e2 ⟨b, hv, hy⟩ => a_s (fun H3 e3 => h2 H3 ((e.trans e2).trans e3)) fun v2 H3 e3 ⟨c, hv2, hn⟩ => by
    subst hv hv2
    exact a_nil ⟨l, r, b, c, y, n, rfl, hl, hr, hy.ex e3, hn, made_s hb fun v H4 e4 hv => q v H4 ((e2.trans e3).trans e4) hv⟩))
end
end Fs

set_option Elab.async false
set_option linter.all false
set_option maxRecDepth 100000
set_option maxHeartbeats 16000000
/-! the law's parts: a body drawn -/
namespace Fs
open PySem L2 Evl FsE FsC FsR FsA FsD FsU FsK StX FsI FsT
theorem rc_intB {K : PySem.W.Frag} {b : Bool} {H : Hp} : RC (fun xs H Q => (∃ i, xs = [V.int i] ∧ Q (.int i) H) ∨ ∃ k, xs = [V.bl k] ∧ Q (.int (if k then 1 else 0)) H) [.bl b] H (.int (if b then 1 else 0)) := fun H1 _ Q q => .inr ⟨b, rfl, q H1 (Ex.refl H1)⟩
theorem cut_takeB {xs : List V} {k : Nat} : cutV xs none (some (k : Int)) = xs.take k := by
  unfold cutV
  rw [HT.sIx_nat]
  show (xs.drop 0).take (min k xs.length - 0) = _
  rw [List.drop_zero, Nat.sub_zero]
  by_cases h : k ≤ xs.length
  · rw [Nat.min_eq_left h]
  · rw [Nat.min_eq_right (by omega), List.take_of_length_le (Nat.le_refl _), List.take_of_length_le (by omega)]
theorem PvAt.updL {C l : Addr} {H : Hp} {xs : List V} {o : HO} (h : H l = some (.lst xs)) {v : V} {p : Pr} (hv : PvAt C H v p) : PvAt C (upd H l o) v p := by
  obtain ⟨a, h1, h2⟩ := hv
  exact ⟨a, h1, h2.keepC (.updL h)⟩
theorem OkP.bd {ns : List Str} {p0 p1 p2 : Pr} (h0 : OkP ns 4 10 p0) (h1 : OkP ns 4 10 p1) (h2 : OkP ns 4 10 p2) : OkP ns 20 400 (.cond (.int 1) (.nm "c") p0 (.cond (.nm "c") (.nm "c") p1 p2)) := by
  have a0 := h0.dep
  have a1 := h1.dep
  have a2 := h2.dep
  have s0 := h0.siz
  have s1 := h1.siz
  have s2 := h2.siz
  have c1 : ("c" : Str).length ≤ 1000 := by decide +kernel
  refine ⟨by simp only [Pr.depth]; omega, by simp only [Pr.size]; omega, ⟨True.intro, c1, h0.sh, c1, c1, h1.sh, h2.sh⟩, fun y hy => ?_, fun ds cn hc h => ?_⟩
  · rcases List.mem_append.mp hy with hy | hy
    · exact h0.dc y hy
    · rcases List.mem_append.mp hy with hy | hy
      · exact h1.dc y hy
      · exact h2.dc y hy
  · have u1 : unb cn [.int 1, .nm "c"] = none := by
      show (if ("c" : Str) ∈ cn then unb cn [] else some "c") = none
      rw [if_pos hc]
      rfl
    have u2 : unb cn [.nm "c", .nm "c"] = none := by
      show (if ("c" : Str) ∈ cn then (if ("c" : Str) ∈ cn then unb cn [] else some "c") else some "c") = none
      rw [if_pos hc, if_pos hc]
      rfl
    rw [fPr, u1, h0.f ds cn hc h, fPr, u2, h1.f ds cn hc h, h2.f ds cn hc h]
    rfl
theorem OkP.up {ns : List Str} {p : Pr} (h : OkP ns 4 10 p) : OkP ns 20 400 p := ⟨Int.le_trans h.dep (by decide), Int.le_trans h.siz (by decide), h.sh, h.dc, h.f⟩
section
variable {σ : L2.St} {H : Hp} {t : TA} {D : Ends}
theorem r_tup (h : t σ H fun vs H1 => vs.length ≤ sizeLine ∧ ∀ p, H1 p = none → D.rt (.ref p) (upd H1 p (.tup vs))) : tRet (tTup t) D σ H := h
end
section
variable {P : Program} {w : World} {K : PySem.W.Frag} {mg : Str → Option Value} {base : Heap} {C CB CK CN CD CW CE CM CP N t0 : Addr}
def spBody (C : Addr) : Sp := fun vs H Q _ => ∃ (rl nl : Addr) (at_ : Nat) (row : List Int) (ns : List Str), vs = [.ref rl, .int (at_ : Int), .ref nl] ∧ H rl = some (.lst (row.map V.int)) ∧ RowOk row ∧ at_ + 3 ≤ row.length ∧ H nl = some (.lst (ns.map V.str)) ∧ ns ≠ [] ∧ ns.length ≤ 8 ∧ (∀ z ∈ ns, nameS z = true ∧ z.length ≤ 8) ∧
  ∀ t p dl b H', Ex H H' → H' t = some (.tup [.ref p, .ref dl]) → PrAt C H' p b → H dl = none → H' dl = some (.lst ((dcs b).map V.str)) → OkP ns 20 400 b → (dcs b).length ≤ 3 → Q (.ref t) H'
abbrev nsBody : List Str := ["_law_row_here", "_law_at", "_law_names", "_law_made", "_law_direct", "_law_k", "_law_name", "_law_one", "_law_way", "_law_first"]
theorem scBody : FnScope nsBody ["_law_row_here", "_law_at", "_law_names"] (defScope (topS 60)) := ⟨rfl, rfl, rfl, by decide +kernel, rfl, by decide +kernel, by decide +kernel⟩
theorem ok_body {f : Addr} {fd : FuncData} {k : Nat} (hk : 5 ≤ k) (F : Fun K "_law_body" "_law_body" (topS 60) f fd) (L : LawT K mg) (TP : TerT K mg C CB)
    (SS : StaX P w K mg base (L2.CX P w) 5 C "stop" (spStop C CB)) (SO : StaX P w K mg base (L2.CX P w) 5 C "offer" (spOffer C CB)) (SN : StaX P w K mg base (L2.CX P w) 5 C "new" (spNew C CB)) (SW : StaX P w K mg base (L2.CX P w) 5 C "when" (spWhen C CB)) (SC : StaX P w K mg base (L2.CX P w) 5 C "call" (spCall K C CB)) :
    FnOk P w K mg base CX0 (k + 1) f fd ["_law_row_here", "_law_at", "_law_names"] (spBody C) := by
  refine F.ok scBody (fun vs H Q E h => ?_) (fun cdv A outer s H vs Q E hr h => ?_)
  · obtain ⟨rl, nl, at_, row, ns, rfl, _⟩ := h
    rfl
  · obtain ⟨rl, nl, at_, row, ns, rfl, h0, hrow, hat, hn, hne, h8, hgood, q⟩ := h
    refine ⟨_, pss_cons (ps_set (i := 3) scBody.nd rfl (Or.inl rfl) (pe_lst pa_nil))
      (pss_cons (ps_set (i := 4) scBody.nd rfl (Or.inl rfl) (pe_lst pa_nil))
      (pss_cons (ps_for PassesOwn.never rfl (pi_range1 rfl L.range (pa_cons pe_int pa_nil)) (pg_name (i := 5) scBody.nd rfl (Or.inl rfl))
        (pss_cons (ps_set (i := 6) scBody.nd rfl (Or.inl rfl) (pe_ix ix_list (pv 2) (pe_op op_mod (pe_callTy call_int1 (by rfl) L.int (by decide +kernel) (pa_cons (pe_ix ix_list (pv 0) (pe_op op_add (pv 1) (pv 5)) (fun _ _ => rfl)) pa_nil)) (pe_callB call_len_seq (by rfl) L.len PySem.boot_len (pa_cons (pv 2) pa_nil))) (fun _ _ => rfl)))
        (pss_cons (ps_set (i := 7) scBody.nd rfl (Or.inl rfl) (pe_sx (E := fun _ => E0) SC hr hk (pe_glob (v := .ref C) (by rfl) TP.mgC rfl) (fun σ => passesAt_of passL σ) (pa_cons (pv 6) (pa_cons (pe_lst pa_nil) pa_nil))))
        (pss_cons (ps_set (i := 8) scBody.nd rfl (Or.inl rfl) (pe_op op_mod (pe_op op_fdiv (pe_ix ix_list (pv 0) (pe_op op_add (pv 1) (pv 5)) (fun _ _ => rfl)) pe_int) pe_int))
        (pss_cut (ps_if (pt_cmpR op_lt (pv 8) pe_int (nomark _)) (pss_one (ps_expr (pe_bm PySem.F.plainAttrs_list PySem.F.slot_list_append PySem.F.type_list_append mt_append (pv 4) (pa_cons (pv 6) pa_nil)))) pss_nil)
        (pss_cut (ps_if (pt_cmpR op_eq (pv 8) pe_int (nomark _)) (pss_one (ps_set (i := 7) scBody.nd rfl (Or.inl rfl) (pe_sx (E := fun _ => E0) SN hr hk (pe_glob (v := .ref C) (by rfl) TP.mgC rfl) (fun σ => passesAt_of passL σ) (pa_cons pe_str (pa_cons pe_int (pa_cons (pv 7) pa_nil))))))
          (pss_one (ps_if (pt_cmpR op_eq (pv 8) pe_int (nomark _)) (pss_one (ps_set (i := 7) scBody.nd rfl (Or.inl rfl) (pe_sx (E := fun _ => E0) SO hr hk (pe_glob (v := .ref C) (by rfl) TP.mgC rfl) (fun σ => passesAt_of passL σ) (pa_cons pe_str (pa_cons pe_int (pa_cons pe_int (pa_cons pe_int (pa_cons (pe_lst pa_nil) (pa_cons (pv 7) pa_nil)))))))))
          (pss_one (ps_if (pt_cmpR op_eq (pv 8) pe_int (nomark _)) (pss_one (ps_set (i := 7) scBody.nd rfl (Or.inl rfl) (pe_sx (E := fun _ => E0) SN hr hk (pe_glob (v := .ref C) (by rfl) TP.mgC rfl) (fun σ => passesAt_of passL σ) (pa_cons pe_str (pa_cons pe_int (pa_cons (pe_sx (E := fun _ => E0) SO hr hk (pe_glob (v := .ref C) (by rfl) TP.mgC rfl) (fun σ => passesAt_of passL σ) (pa_cons pe_str (pa_cons pe_int (pa_cons pe_int (pa_cons pe_int (pa_cons (pe_lst pa_nil) (pa_cons (pv 7) pa_nil))))))) pa_nil))))))
          (pss_one (ps_if (pt_cmpR op_eq (pv 8) pe_int (nomark _)) (pss_one (ps_set (i := 7) scBody.nd rfl (Or.inl rfl) (pe_sx0 (E := fun _ => E0) SS hr hk (pe_glob (v := .ref C) (by rfl) TP.mgC rfl) (fun σ => passesAt_of passL σ)))) pss_nil)))))))
        (pss_one (ps_expr (pe_bm PySem.F.plainAttrs_list PySem.F.slot_list_append PySem.F.type_list_append mt_append (pv 3) (pa_cons (pv 7) pa_nil))))))))))
      (pss_cons (ps_if (pt_cmpR op_eq (pe_op op_mod (pe_op op_fdiv (pe_ix ix_list (pv 0) (pv 1) (fun _ _ => rfl)) pe_int) pe_int) pe_int (nomark _))
          (pss_cons (ps_set (i := 9) scBody.nd rfl (Or.inl rfl) (pe_cmpR op_lt (pe_op op_mod (pe_op op_fdiv (pe_callTy call_int1 (by rfl) L.int (by decide +kernel) (pa_cons (pe_ix ix_list (pv 0) (pv 1) (fun _ _ => rfl)) pa_nil)) pe_int) pe_int) pe_int (nomark _)))
          (pss_one (ps_ret (pe_tup (pa_cons (pe_ix ix_list (pv 3) pe_int (fun _ _ => rfl)) (pa_cons (pe_slice sl_list (pv 4) po_none (po_some (pe_callTy call_int1 (by rfl) L.int (by decide +kernel) (pa_cons (pv 9) pa_nil)))) pa_nil)))))) pss_nil)
      (pss_one (ps_ret (pe_tup (pa_cons (pe_sx (E := fun _ => E0) SW hr hk (pe_glob (v := .ref C) (by rfl) TP.mgC rfl) (fun σ => passesAt_of passL σ) (pa_cons pe_int (pa_cons pe_str (pa_cons (pe_ix ix_list (pv 3) pe_int (fun _ _ => rfl)) (pa_cons (pe_sx (E := fun _ => E0) SW hr hk (pe_glob (v := .ref C) (by rfl) TP.mgC rfl) (fun σ => passesAt_of passL σ) (pa_cons pe_str (pa_cons pe_str (pa_cons (pe_ix ix_list (pv 3) pe_int (fun _ _ => rfl)) (pa_cons (pe_ix ix_list (pv 3) pe_int (fun _ _ => rfl)) pa_nil))))) pa_nil))))) (pa_cons (pv 4) pa_nil)))))))), ?_⟩
    refine q_asgL (xs := []) lst0 (fun ml H1 hml e1 h1 => ?_)
    refine q_asgL (xs := []) lst0 (fun dl H2 hdl e2 h2 => ?_)
    have nmd : ml ≠ dl := ne_of_none h1 hdl
    have x2 := e1.trans e2
    have hml0 : H ml = none := hml
    have hdl0 : H dl = none := fresh_back e1 hdl
    have nnl : nl ≠ dl := fun z => by
      rw [z, hdl0] at hn
      cases hn
    have hpos : 0 < ns.length := List.length_pos_iff.mpr hne
    refine q_forR1 (n := 3) (ea_cons ev_c ea_nil) (by decide) (fun i σ' H' => ∃ (xs : List V) (ps : List Pr) (v5 v6 v7 v8 v9 : Option V), σ' = [some (.ref rl), some (.int (at_ : Int)), some (.ref nl), some (.ref ml), some (.ref dl), v5, v6, v7, v8, v9] ∧ Ex H H' ∧ H' ml = some (.lst xs) ∧ LsA (PvAt C) H' xs ps ∧ ps.length = i ∧ (ps.flatMap dcs).length ≤ i ∧ H' dl = some (.lst ((ps.flatMap dcs).map V.str)) ∧ ∀ j p, ps[j]? = some p → ∃ r z, row[at_ + j]? = some r ∧ z ∈ ns ∧ p = oneP (r / 8 % 6) z)
      (fun H3 e3 => ⟨[], [], _, _, _, _, _, rfl, x2.trans e3, (e2.trans e3) _ _ h1, trivial, rfl, Nat.le_refl _, e3 _ _ h2, fun j p hp => by simp at hp⟩) (fun i σ' H' hi ⟨xs, ps, v5, v6, v7, v8, v9, hσ, he, hm, hxs, hl, hfl, hd, hps⟩ => ?_) (fun σ' H' ⟨xs, ps, v5, v6, v7, v8, v9, hσ, he, hm, hxs, hl, hfl, hd, hps⟩ => ?_)
    · subst hσ
      obtain ⟨r, a0, a1, a2⟩ := row_getB (i := at_ + i) hrow (by omega)
      have rI : ∀ {H9 : Hp} {σ : L2.St}, Ex H' H9 → σ[0]? = some (some (.ref rl)) → σ[1]? = some (some (.int (at_ : Int))) → σ[5]? = some (some (.int (i : Int))) → Ev (tOp (rIxL K) (tVar 0) (tOp (rI0 fun i j => .int (i + j)) (tVar 1) (tVar 5))) σ H9 (.int r) := fun e9 s0 s1 s5 => ev_ixI (j := at_ + i) (ev_var s0) (ev_is (ev_op (x := .int (at_ : Int)) (y := .int (i : Int)) (ev_var s1) (ev_var s5) rv_I0) (by show V.int ((at_ : Int) + (i : Int)) = V.int ((at_ + i : Nat) : Int); congr 1)) ((he.trans e9) _ _ h0) a0
      have q1 := Int.emod_nonneg r (b := (ns.length : Int)) (by omega)
      have q2 := Int.emod_lt_of_pos r (b := (ns.length : Int)) (by omega)
      obtain ⟨z, hz, atz⟩ := str_at (ns := ns) (i := r % (ns.length : Int)) q1 q2
      obtain ⟨gz, lz⟩ := hgood z hz
      have w0 : 0 ≤ r / 8 % 6 := by omega
      have w6 : r / 8 % 6 < 6 := by omega
      refine q_asg (v := .str z) (ev_op (y := .int (r % (ns.length : Int))) (ev_var rfl) (ev_op (x := .int r) (y := .int (ns.length : Int)) (ev_int1 (K := K) (rI (Ex.refl H') rfl rfl rfl)) (ev_is (ev_lenQ (K := K) (ev_var rfl) (.inl (sq_of (he _ _ hn)))) (by rw [List.length_map])) (rv_I (by show (0 : Int) < ns.length; omega))) (rv_ixL (sq_of (he _ _ hn)) atz)) (fun H3 e3 => ?_)
      refine q_asgS (Pv := fun v H9 => PvAt C H9 v (.call z [])) (es_call0 (ev_var rfl) gz (by omega)) (fun v7 H4 e4 hv7 => ?_)
      refine q_asg (v := .int (r / 8 % 6)) (ev_op (x := .int (r / 8)) (ev_op (x := .int r) (rI (e3.trans e4) rfl rfl rfl) ev_c (rv_I ⟨by decide, by decide⟩)) ev_c (rv_I (by decide))) (fun H5 e5 => ?_)
      generalize hw : r / 8 % 6 = way at w0 w6
      have x5 := (e3.trans e4).trans e5
      have hc1 : nameS "c" = true := by decide +kernel
      have hn1 : nameS "n" = true := by decide +kernel
      have okz := ok_one (ns := ns) w0 w6 hz (by omega)
      refine q_cut (M := fun σ' H9 => σ' = [some (.ref rl), some (.int (at_ : Int)), some (.ref nl), some (.ref ml), some (.ref dl), some (.int (i : Int)), some (.str z), some v7, some (.int way), v9] ∧ Ex H H9 ∧ H9 ml = some (.lst xs) ∧ LsA (PvAt C) H9 xs ps ∧ PvAt C H9 v7 (.call z []) ∧ H9 dl = some (.lst (((ps.flatMap dcs) ++ dcs (oneP way z)).map V.str))) ?_ (fun σ6 H6 ⟨hσ6, he6, hm6, hxs6, hv6, hd6⟩ => ?_)
      · refine s_when (b := decide (way < 3)) (et_test (ev_op (x := .int way) (ev_var rfl) ev_c rv_I0)) (fun hb H6 e6 => ?_) (fun hb H6 e6 => ?_)
        · have x6 := x5.trans e6
          refine s_app (xs := (ps.flatMap dcs).map V.str) (v := .str z) (x6 _ _ hd) (ev_var rfl) (ev_var rfl) (by rw [List.length_map]; omega) (fun H7 e7 => ?_)
          have hd7 := (x6.trans e7) _ _ hd
          refine ⟨rfl, Ex.mut (he.trans (x6.trans e7)) hdl0, by rw [upd_ne nmd]; exact (x6.trans e7) _ _ hm, hxs.imp fun _ _ y => (y.ex (x6.trans e7)).updL hd7, (hv7.ex ((e5.trans e6).trans e7)).updL hd7, ?_⟩
          rw [upd_same, dcs_one w0 w6, if_pos (of_decide_eq_true hb), List.map_append]
          rfl
        · have x6 := x5.trans e6
          refine ⟨rfl, he.trans x6, x6 _ _ hm, hxs.imp fun _ _ y => y.ex x6, hv7.ex (e5.trans e6), ?_⟩
          rw [dcs_one w0 w6, if_neg (of_decide_eq_false hb), List.append_nil]
          exact x6 _ _ hd
      subst hσ6
      refine q_cut (M := fun σ' H9 => ∃ v : V, σ' = [some (.ref rl), some (.int (at_ : Int)), some (.ref nl), some (.ref ml), some (.ref dl), some (.int (i : Int)), some (.str z), some v, some (.int way), v9] ∧ Ex H6 H9 ∧ PvAt C H9 v (oneP way z)) ?_ (fun σ7 H7 ⟨v, hσ7, e7, hv⟩ => ?_)
      · refine s_if (b := decide (V.int way = V.int 0)) (et_test (ev_op (x := .int way) (ev_var rfl) ev_c (rv_eq rfl))) (fun hb H7 e7 => ?_) (fun hb0 H7 e7 => ?_)
        · have hw0 : way = 0 := V.int.inj (of_decide_eq_true hb)
          subst hw0
          exact s_asgS (es_newN (k := 2) (r := .call z []) (fun H8 e8 Q8 q8 => ⟨_, rfl, q8 _ H8 (Ex.refl H8) (hv6.ex (e7.trans e8))⟩) (bNew hn1 (by decide) (by simp only [Pr.depth]; decide) (by simp only [Pr.size]; decide))) (fun v H8 e8 hv => ⟨v, rfl, e7.trans e8, hv⟩)
        refine s_if (b := decide (V.int way = V.int 3)) (et_test (ev_op (x := .int way) (ev_var rfl) ev_c (rv_eq rfl))) (fun hb H8 e8 => ?_) (fun hb3 H8 e8 => ?_)
        · have hw0 : way = 3 := V.int.inj (of_decide_eq_true hb)
          subst hw0
          exact s_asgS (es_off (z := "c") (r := .call z []) (fun H9 e9 Q8 q8 => ⟨_, rfl, q8 _ H9 (Ex.refl H9) (hv6.ex ((e7.trans e8).trans e9))⟩) (by decide +kernel) (bOff hc1 (by simp only [Pr.depth, Ofs.depth]; decide) (by simp only [Pr.size, Ofs.len, Ofs.sum]; decide))) (fun v H9 e9 hv => ⟨v, rfl, (e7.trans e8).trans e9, hv⟩)
        refine s_if (b := decide (V.int way = V.int 4)) (et_test (ev_op (x := .int way) (ev_var rfl) ev_c (rv_eq rfl))) (fun hb H9 e9 => ?_) (fun hb4 H9 e9 => ?_)
        · have hw0 : way = 4 := V.int.inj (of_decide_eq_true hb)
          subst hw0
          exact s_asgS (es_newN (k := 1) (es_off (z := "n") (r := .call z []) (fun H10 e10 Q8 q8 => ⟨_, rfl, q8 _ H10 (Ex.refl H10) (hv6.ex (((e7.trans e8).trans e9).trans e10))⟩) (by decide +kernel) (bOff hn1 (by simp only [Pr.depth, Ofs.depth]; decide) (by simp only [Pr.size, Ofs.len, Ofs.sum]; decide))) (bNew hn1 (by decide) (by simp only [Pr.depth, Ofs.depth]; decide) (by simp only [Pr.size, Ofs.len, Ofs.sum]; decide))) (fun v H10 e10 hv => ⟨v, rfl, ((e7.trans e8).trans e9).trans e10, hv⟩)
        have x9 := (e7.trans e8).trans e9
        refine s_when (b := decide (V.int way = V.int 5)) (et_test (ev_op (x := .int way) (ev_var rfl) ev_c (rv_eq rfl))) (fun hb H10 e10 => ?_) (fun hb5 H10 e10 => ⟨v7, rfl, x9.trans e10, ?_⟩)
        · have hw0 : way = 5 := V.int.inj (of_decide_eq_true hb)
          subst hw0
          exact s_asgS es_stop (fun v H11 e11 hv => ⟨v, rfl, (x9.trans e10).trans e11, hv⟩)
        · have n0 : ¬ way = 0 := fun z => by rw [z] at hb0; simp at hb0
          have n3 : ¬ way = 3 := fun z => by rw [z] at hb3; simp at hb3
          have n4 : ¬ way = 4 := fun z => by rw [z] at hb4; simp at hb4
          have n5 : ¬ way = 5 := fun z => by rw [z] at hb5; simp at hb5
          unfold oneP
          rw [if_neg n0, if_neg n3, if_neg n4, if_neg n5]
          exact hv6.ex (x9.trans e10)
      subst hσ7
      have hlx := hxs6.length
      refine s_app (xs := xs) (v := v) (e7 _ _ hm6) (ev_var rfl) (ev_var rfl) (by omega) (fun H8 e8 => ?_)
      have x8 := e7.trans e8
      have hm8 := x8 _ _ hm6
      refine ⟨xs ++ [v], ps ++ [oneP way z], _, _, _, _, _, rfl, Ex.mut (he6.trans x8) hml0, upd_same, (hxs6.imp fun _ _ y => (y.ex x8).updL hm8).snoc ((hv.ex e8).updL hm8), by rw [List.length_append, hl]; rfl, ?_, ?_, fun j p hp => ?_⟩
      · rw [List.flatMap_append, List.length_append]
        have : ([oneP way z].flatMap dcs).length ≤ 1 := by
          have e : [oneP way z].flatMap dcs = dcs (oneP way z) := by simp
          rw [e, dcs_one w0 w6]
          split <;> simp
        omega
      · rw [upd_ne nmd.symm, List.flatMap_append]
        have := x8 _ _ hd6
        rw [this]
        simp
      · rcases Nat.lt_or_ge j ps.length with hj | hj
        · rw [List.getElem?_append_left hj] at hp
          exact hps j p hp
        · have hj2 : j = ps.length := by
            have := (List.getElem?_eq_some_iff.mp hp).1
            rw [List.length_append] at this
            have : [oneP way z].length = 1 := rfl
            omega
          subst hj2
          rw [List.getElem?_append_right (Nat.le_refl _), Nat.sub_self] at hp
          cases hp
          exact ⟨r, z, by rw [hl]; exact a0, hz, by rw [hw]⟩
    · subst hσ
      obtain ⟨p0, p1, p2, rfl⟩ : ∃ p0 p1 p2, ps = [p0, p1, p2] := by
        match ps, hl with
        | [p0, p1, p2], _ => exact ⟨p0, p1, p2, rfl⟩
      obtain ⟨y0, y1, y2, rfl⟩ : ∃ y0 y1 y2, xs = [y0, y1, y2] := by
        match xs, hxs.length with
        | [y0, y1, y2], _ => exact ⟨y0, y1, y2, rfl⟩
      obtain ⟨g0, g1, g2, _⟩ := hxs
      obtain ⟨r, z0, b0, hz0, rfl⟩ := hps 0 p0 rfl
      obtain ⟨r1, z1, b1, hz1, rfl⟩ := hps 1 p1 rfl
      obtain ⟨r2, z2, b2, hz2, rfl⟩ := hps 2 p2 rfl
      have one : ∀ {r : Int} {z : Str}, z ∈ ns → OkP ns 4 10 (oneP (r / 8 % 6) z) := fun {r z} hz => ok_one (by omega) (by omega) hz (by have := (hgood z hz).2; omega)
      have dl1 : ∀ {r : Int} {z : Str}, (dcs (oneP (r / 8 % 6) z)).length ≤ 1 := fun {r z} => by
        rw [dcs_one (by omega) (by omega)]
        split <;> simp
      have rr := hrow r (List.mem_of_getElem? b0)
      have hd3 : ([oneP (r / 8 % 6) z0, oneP (r1 / 8 % 6) z1, oneP (r2 / 8 % 6) z2] : List Pr).flatMap dcs = dcs (oneP (r / 8 % 6) z0) ++ (dcs (oneP (r1 / 8 % 6) z1) ++ dcs (oneP (r2 / 8 % 6) z2)) := by simp
      rw [hd3] at hd
      have rI : ∀ {H9 : Hp} {σ : L2.St}, Ex H' H9 → σ[0]? = some (some (.ref rl)) → σ[1]? = some (some (.int (at_ : Int))) → Ev (tOp (rIxL K) (tVar 0) (tVar 1)) σ H9 (.int r) := fun e9 s0 s1 => ev_ixI (j := at_) (ev_var s0) (ev_var s1) ((he.trans e9) _ _ h0) b0
      have it : ∀ {H9 : Hp} {σ : L2.St} {j : Nat} {y : V} {p : Pr}, Ex H' H9 → σ[3]? = some (some (.ref ml)) → ([y0, y1, y2] : List V)[j]? = some y → PvAt C H' y p → EvS (tOp (rIxL K) (tVar 3) (tC (.int (j : Int)))) σ H9 (fun v H' => PvAt C H' v p) := fun {H9 σ j y p} e9 s3 hy hp H10 e10 Q10 q10 =>
        ev_op (x := .ref ml) (y := .int (j : Int)) (ev_var s3) ev_c (rv_ixL (K := K) (sq_of ((e9.trans e10) _ _ hm)) (atI_nat hy)) H10 (Ex.refl H10) _ fun H11 e11 => q10 _ H11 e11 (hp.ex ((e9.trans e10).trans e11))
      refine q_when (b := decide (V.int (r / 48 % 3) = V.int 0)) (et_test (ev_op (x := .int (r / 48 % 3)) (ev_op (x := .int (r / 48)) (ev_op (x := .int r) (rI (Ex.refl H') rfl rfl) ev_c (rv_I ⟨by decide, by decide⟩)) ev_c (rv_I (by decide))) ev_c (rv_eq rfl))) (fun hb H3 e3 => ?_) (fun hb H3 e3 => ?_)
      · refine q_asg (v := .bl (decide (r / 8 % 6 < 3))) (ev_op (x := .int (r / 8 % 6)) (ev_op (x := .int (r / 8)) (ev_op (x := .int r) (ev_int1 (K := K) (rI e3 rfl rfl)) ev_c (rv_I ⟨by decide, by decide⟩)) ev_c (rv_I (by decide))) ev_c rv_I0) (fun H4 e4 => ?_)
        have x4 := e3.trans e4
        refine r_tup (a_s (it (j := 0) x4 rfl rfl g0) fun v H5 e5 ⟨a, hv, ha⟩ => ?_)
        subst hv
        have x5 := x4.trans e5
        have key : EvL (tSl (rSlL K) (tVar 4) tNoPart (tPart (tCB (fun xs H Q => (∃ i, xs = [V.int i] ∧ Q (.int i) H) ∨ ∃ k, xs = [V.bl k] ∧ Q (.int (if k then 1 else 0)) H) (tCons (tVar 9) tNil)))) [some (.ref rl), some (.int (at_ : Int)), some (.ref nl), some (.ref ml), some (.ref dl), v5, v6, v7, v8, some (.bl (decide (r / 8 % 6 < 3)))] H5 ((dcs (oneP (r / 8 % 6) z0)).map V.str) := by
          have e2 : cutV ((dcs (oneP (r / 8 % 6) z0) ++ (dcs (oneP (r1 / 8 % 6) z1) ++ dcs (oneP (r2 / 8 % 6) z2))).map V.str) none (some (if decide (r / 8 % 6 < 3) = true then 1 else 0)) = (dcs (oneP (r / 8 % 6) z0)).map V.str := by
            rw [dcs_one (way := r / 8 % 6) (by omega) (by omega)]
            by_cases h3 : r / 8 % 6 < 3
            · rw [if_pos h3, decide_eq_true h3, if_pos rfl]
              show cutV _ none (some ((1 : Nat) : Int)) = _
              rw [cut_takeB]
              rfl
            · rw [if_neg h3, decide_eq_false h3, if_neg (by decide)]
              show cutV _ none (some ((0 : Nat) : Int)) = _
              rw [cut_takeB]
              rfl
          rw [← e2]
          exact el_sl (ev_var rfl) eo_none (eo_some (ev_cb (ea_cons (ev_var rfl) ea_nil) (rc_intB (K := K)))) (sq_of (x5 _ _ hd))
        refine a_l key fun l H6 hl6 e6 h6 => a_nil ⟨by show 2 ≤ sizeLine; decide, fun t ht => ?_⟩
        have x6 := (he.trans x5).trans e6
        exact q t a l _ _ (x6.trans (Ex.new ht)) upd_same (ha.ex (e6.trans (Ex.new ht))) (fresh_back (he.trans x5) hl6) ((Ex.new ht) _ _ h6) (one hz0).up (by have := @dl1 r z0; omega)
      · refine r_tup (a_s (es_when (l := .int 1) (r := .nm "c") (it (j := 0) e3 rfl rfl g0) (es_when (l := .nm "c") (r := .nm "c") (it (j := 1) e3 rfl rfl g1) (it (j := 2) e3 rfl rfl g2) (by show ("c" : Str).length ≤ 40000; decide +kernel) (by show ("c" : Str).length ≤ 40000; decide +kernel) (bWhen (by rw [opV_nm]; decide +kernel) (by rw [opV_nm]; decide +kernel) ?_ ?_)) True.intro (by show ("c" : Str).length ≤ 40000; decide +kernel) (bWhen (opV5 (by decide)) (by rw [opV_nm]; decide +kernel) ((one hz0).bd (one hz1) (one hz2)).dep ((one hz0).bd (one hz1) (one hz2)).siz)) fun v H4 e4 ⟨a, hv, ha⟩ => ?_)
        · have := (@one r1 z1 hz1).dep
          have := (@one r2 z2 hz2).dep
          simp only [Pr.depth]
          omega
        · have := (@one r1 z1 hz1).siz
          have := (@one r2 z2 hz2).siz
          simp only [Pr.size]
          omega
        subst hv
        refine a_var rfl (a_nil ⟨by show 2 ≤ sizeLine; decide, fun t ht => ?_⟩)
        have x4 := (he.trans e3).trans e4
        exact q t a dl _ _ (x4.trans (Ex.new ht)) upd_same (ha.ex (Ex.new ht)) hdl0 ((e3.trans (e4.trans (Ex.new ht))) _ _ hd) ((one hz0).bd (one hz1) (one hz2)) (by
          show (dcs (oneP (r / 8 % 6) z0) ++ (dcs (oneP (r1 / 8 % 6) z1) ++ dcs (oneP (r2 / 8 % 6) z2))).length ≤ 3
          have d0 := @dl1 r z0
          have d1 := @dl1 r1 z1
          have d2 := @dl1 r2 z2
          rw [List.length_append, List.length_append]
          omega)
end
end Fs

set_option Elab.async false
set_option linter.all false
set_option maxRecDepth 100000
set_option maxHeartbeats 2000000
/-! xs != [], xs == []. -/
namespace FsR
open PySem PySem.Spec PyProof.Rows L2 Evl
def rNeNil (K : PySem.W.Frag) : R2 := fun x y H Q => ∃ (a b : Addr) (xs : List V), x = .ref a ∧ y = .ref b ∧ SqL K H a xs ∧ SqL K H b [] ∧ Q (.bl (!xs.isEmpty)) H
theorem op_neNil {X : Cx} (hu : X.A.units < cLine) : OpR X (compareOp .NotEq) (rNeNil X.K) := by
  intro pins s σ H x y v u Q I rx ry h
  obtain ⟨a, b, xs, rfl, rfl, ha, hb, q⟩ := h
  obtain rfl : v = Value.ref a := rx
  obtain rfl : u = Value.ref b := ry
  obtain ⟨us, r1, p1, _⟩ := I.list ha
  obtain ⟨ws, r2, p2, _⟩ := I.list hb
  have hws : ws = [] := by
    cases r2
    rfl
  subst hws
  cases r1 with
  | nil =>
    refine SeqAt.RcNeAt.lists (e := fun _ => true) p1.isList p2.isList rfl hu (fun j h1 _ => by simp at h1) X.prog X.w X.xe _ ?_
    exact ⟨.bl false, H, I, rfl, q⟩
  | cons r rs =>
    refine SeqAt.RcNeAt.lists_lengths p1.isList p2.isList (by simp) hu X.prog X.w X.xe _ ?_
    exact ⟨.bl true, H, I, rfl, q⟩
def rEqNil (K : PySem.W.Frag) : R2 := fun x y H Q => ∃ (a b : Addr) (xs : List V), x = .ref a ∧ y = .ref b ∧ SqL K H a xs ∧ SqL K H b [] ∧ Q (.bl xs.isEmpty) H
theorem op_eqNil {X : Cx} (hu : X.A.units < cLine) : OpR X (compareOp .Eq) (rEqNil X.K) := by
  intro pins s σ H x y v u Q I rx ry h
  obtain ⟨a, b, xs, rfl, rfl, ha, hb, q⟩ := h
  obtain rfl : v = Value.ref a := rx
  obtain rfl : u = Value.ref b := ry
  obtain ⟨us, r1, p1, _⟩ := I.list ha
  obtain ⟨ws, r2, p2, _⟩ := I.list hb
  have hws : ws = [] := by
    cases r2
    rfl
  subst hws
  cases r1 with
  | nil =>
    refine SeqAt.RcAt.lists (e := fun _ => true) p1.isList p2.isList rfl hu (fun j h1 _ => by simp at h1) X.prog X.w X.xe _ ?_
    exact ⟨.bl true, H, I, rfl, q⟩
  | cons r rs =>
    refine SeqAt.RcAt.lists_lengths p1.isList p2.isList (by simp) hu X.prog X.w X.xe _ ?_
    exact ⟨.bl false, H, I, rfl, q⟩
theorem rv_neNil {K : PySem.W.Frag} {H : Hp} {a b : Addr} {xs : List V} (ha : SqL K H a xs) (hb : SqL K H b []) : RV (rNeNil K) (.ref a) (.ref b) H (.bl (!xs.isEmpty)) := fun H1 e _ q => ⟨a, b, xs, rfl, rfl, ex_l e ha, ex_l e hb, q H1 (Ex.refl H1)⟩
theorem rv_eqNil {K : PySem.W.Frag} {H : Hp} {a b : Addr} {xs : List V} (ha : SqL K H a xs) (hb : SqL K H b []) : RV (rEqNil K) (.ref a) (.ref b) H (.bl xs.isEmpty) := fun H1 e _ q => ⟨a, b, xs, rfl, rfl, ex_l e ha, ex_l e hb, q H1 (Ex.refl H1)⟩
end FsR
namespace FsR
open PySem PySem.Spec PyProof.Rows L2 Evl
/-- xs != ys, the same objects in both -/
def rNeSame (K : PySem.W.Frag) : R2 := fun x y H Q => ∃ (a b : Addr) (xs : List V), x = .ref a ∧ y = .ref b ∧ SqL K H a xs ∧ SqL K H b xs ∧ (∀ v ∈ xs, ∃ c, v = V.ref c) ∧ Q (.bl false) H
theorem vals_refs : ∀ {xs : List V} {us ws : List Value}, (∀ v ∈ xs, ∃ c, v = V.ref c) → Vals xs us → Vals xs ws → us = ws
  | _, _, _, _, .nil, .nil => rfl
  | x :: xs, _ :: _, _ :: _, h, .cons r rs, .cons t ts => by
    obtain ⟨c, rfl⟩ := h x List.mem_cons_self
    cases r
    cases t
    rw [vals_refs (fun v hv => h v (List.mem_cons_of_mem _ hv)) rs ts]
theorem op_neSame {X : Cx} (hu : X.A.units < cLine) : OpR X (compareOp .NotEq) (rNeSame X.K) := by
  intro pins s σ H x y v u Q I rx ry h
  obtain ⟨a, b, xs, rfl, rfl, ha, hb, hx, q⟩ := h
  obtain rfl : v = Value.ref a := rx
  obtain rfl : u = Value.ref b := ry
  obtain ⟨us, r1, p1, _⟩ := I.list ha
  obtain ⟨ws, r2, p2, _⟩ := I.list hb
  have e := vals_refs hx r1 r2
  subst e
  refine SeqAt.RcNeAt.lists (e := fun _ => true) p1.isList p2.isList rfl hu (fun j h1 _ => SeqAt.EqAt.same _) X.prog X.w X.xe _ ?_
  refine ⟨.bl false, H, I, ?_, q⟩
  show Value.bool _ = Value.bool false
  simp
theorem rv_neSame {K : PySem.W.Frag} {H : Hp} {a b : Addr} {xs : List V} (ha : SqL K H a xs) (hb : SqL K H b xs) (hx : ∀ v ∈ xs, ∃ c, v = V.ref c) : RV (rNeSame K) (.ref a) (.ref b) H (.bl false) := fun H1 e _ q => ⟨a, b, xs, rfl, rfl, ex_l e ha, ex_l e hb, hx, q H1 (Ex.refl H1)⟩
end FsR

set_option Elab.async false
set_option linter.all false
set_option maxRecDepth 100000
set_option maxHeartbeats 16000000
/-! the law's parts: the least name that comes back to itself -/
namespace Fs
open PySem L2 Evl FsE FsC FsR FsA FsD FsU FsK StX FsI FsT
structure Wl (es : Eds) (z : Str) (fs ls : List Str) : Prop where
  nd : fs.Nodup
  fk : ∀ y ∈ fs, y ∈ es.map (·.1)
  lk : ∀ y ∈ ls, y ∈ es.map (·.1)
  re : ∀ y ∈ fs, Reach es z y
  lr : ∀ y ∈ ls, y = z ∨ y ∈ fs
  cl : ∀ x, (x = z ∨ x ∈ fs) → x ∉ ls → ∀ y, Ed es x y → y ∈ fs
/-- while the names behind x are looked at -/
structure Wi (es : Eds) (z x : Str) (l : List Str) (i : Nat) (fs ls : List Str) : Prop where
  nd : fs.Nodup
  fk : ∀ y ∈ fs, y ∈ es.map (·.1)
  lk : ∀ y ∈ ls, y ∈ es.map (·.1)
  re : ∀ y ∈ fs, Reach es z y
  lr : ∀ y ∈ ls, y = z ∨ y ∈ fs
  cl : ∀ u, (u = z ∨ u ∈ fs) → u ∉ ls → u = x ∨ ∀ y, Ed es u y → y ∈ fs
  px : ∀ y ∈ l.take i, y ∈ fs
theorem Wl.start {es : Eds} {z : Str} (hz : z ∈ es.map (·.1)) : Wl es z [] [z] := ⟨.nil, (fun y h => nomatch h), fun y hy => by rw [List.mem_singleton.mp hy]; exact hz, (fun y h => nomatch h), fun y hy => .inl (List.mem_singleton.mp hy), fun x hx hn => by
  rcases hx with rfl | hx
  · exact absurd (List.mem_singleton.mpr rfl) hn
  · exact nomatch hx⟩
theorem Wl.enter {es : Eds} {z x : Str} {fs ls l : List Str} (w : Wl es z fs (ls ++ [x])) : Wi es z x l 0 fs ls := ⟨w.nd, w.fk, fun y hy => w.lk y (List.mem_append_left _ hy), w.re, fun y hy => w.lr y (List.mem_append_left _ hy), fun u hu hn => by
  by_cases hux : u = x
  · exact .inl hux
  · exact .inr (w.cl u hu fun hm => (List.mem_append.mp hm).elim hn fun g => hux (List.mem_singleton.mp g)), fun y hy => by simp at hy⟩
theorem Wi.old {es : Eds} {z x y : Str} {l fs ls : List Str} {i : Nat} (w : Wi es z x l i fs ls) (hy : l[i]? = some y) (hf : y ∈ fs) : Wi es z x l (i + 1) fs ls := ⟨w.nd, w.fk, w.lk, w.re, w.lr, w.cl, fun u hu => by
  rw [List.take_add_one, hy] at hu
  rcases List.mem_append.mp hu with hu | hu
  · exact w.px u hu
  · rw [List.mem_singleton.mp hu]
    exact hf⟩
theorem Wi.new {es : Eds} {z x y : Str} {l fs ls : List Str} {i : Nat} (w : Wi es z x l i fs ls) (hx : x = z ∨ Reach es z x) (hl : es.lookup x = some l) (hc : Closed es) (hy : l[i]? = some y) (hf : y ∉ fs) : Wi es z x l (i + 1) (fs ++ [y]) (ls ++ [y]) := by
  have hm : y ∈ l := List.mem_of_getElem? hy
  have ky : y ∈ es.map (·.1) := hc x y ⟨l, hl, hm⟩
  have self : y ∈ fs ++ [y] := List.mem_append_right _ (List.mem_singleton.mpr rfl)
  refine ⟨?_, fun u hu => ?_, fun u hu => ?_, fun u hu => ?_, fun u hu => ?_, fun u hu hn => ?_, fun u hu => ?_⟩
  · rw [List.nodup_append]
    refine ⟨w.nd, by simp, fun a ha b hb e => ?_⟩
    rw [List.mem_singleton.mp hb] at e
    rw [e] at ha
    exact hf ha
  · exact (List.mem_append.mp hu).elim (w.fk u) fun g => by rw [List.mem_singleton.mp g]; exact ky
  · exact (List.mem_append.mp hu).elim (w.lk u) fun g => by rw [List.mem_singleton.mp g]; exact ky
  · refine (List.mem_append.mp hu).elim (w.re u) fun g => ?_
    rw [List.mem_singleton.mp g]
    rcases hx with rfl | hx
    · exact .one ⟨l, hl, hm⟩
    · exact .more hx ⟨l, hl, hm⟩
  · exact (List.mem_append.mp hu).elim (fun g => (w.lr u g).imp id (List.mem_append_left _)) fun g => .inr (by rw [List.mem_singleton.mp g]; exact self)
  · have hn1 : u ∉ ls := fun g => hn (List.mem_append_left _ g)
    have huy : u ≠ y := fun g => hn (by rw [g]; exact List.mem_append_right _ (List.mem_singleton.mpr rfl))
    have hu1 : u = z ∨ u ∈ fs := hu.imp id fun g => (List.mem_append.mp g).elim id fun g => absurd (List.mem_singleton.mp g) huy
    exact (w.cl u hu1 hn1).imp id fun g y' hy' => List.mem_append_left _ (g y' hy')
  · rw [List.take_add_one, hy] at hu
    rcases List.mem_append.mp hu with hu | hu
    · exact List.mem_append_left _ (w.px u hu)
    · rw [List.mem_singleton.mp hu]
      exact self
theorem Wi.leave {es : Eds} {z x : Str} {l fs ls : List Str} (w : Wi es z x l l.length fs ls) (hl : es.lookup x = some l) : Wl es z fs ls := ⟨w.nd, w.fk, w.lk, w.re, w.lr, fun u hu hn y hy => by
  rcases w.cl u hu hn with rfl | g
  · obtain ⟨l', h1, h2⟩ := hy
    rw [hl] at h1
    cases h1
    exact w.px y (by rw [List.take_length]; exact h2)
  · exact g y hy⟩
theorem Wl.done {es : Eds} {z : Str} {fs : List Str} (w : Wl es z fs []) : ∀ y, y ∈ fs ↔ Reach es z y := fun y => ⟨w.re y, fun h => by
  induction h with
  | one h => exact w.cl z (.inl rfl) (fun g => nomatch g) _ h
  | more _ h ih => exact w.cl _ (.inr ih) (fun g => nomatch g) _ h⟩
theorem ed_at : ∀ {ds : Ds} {j : Nat} {d : Str × List Str × Pr}, (ds.map (·.1)).Nodup → ds[j]? = some d → (edOf ds).lookup d.1 = some (dcs d.2.2)
  | [], _, _, _, h => by simp at h
  | x :: ds, 0, d, nd, h => by
    cases h
    show List.lookup x.1 ((x.1, dcs x.2.2) :: edOf ds) = _
    rw [List.lookup_cons, beq_self_eq_true]
  | x :: ds, j + 1, d, nd, h => by
    have h' : ds[j]? = some d := h
    obtain ⟨n1, n2⟩ := List.nodup_cons.mp nd
    have hm : d.1 ∈ ds.map (·.1) := List.mem_map.mpr ⟨d, List.mem_of_getElem? h', rfl⟩
    have hne : d.1 ≠ x.1 := fun z => n1 (by show x.1 ∈ ds.map (·.1); rw [← z]; exact hm)
    show List.lookup d.1 ((x.1, dcs x.2.2) :: edOf ds) = _
    rw [List.lookup_cons, show (d.1 == x.1) = false from beq_eq_false_iff_ne.mpr hne]
    exact ed_at n2 h'
def DlAt (H : Hp) (v : V) (l : List Str) : Prop := ∃ a, v = .ref a ∧ H a = some (.lst (l.map V.str))
theorem DlAt.ex {H H' : Hp} (e : Ex H H') {v : V} {l : List Str} (h : DlAt H v l) : DlAt H' v l := by
  obtain ⟨a, h1, h2⟩ := h
  exact ⟨a, h1, e _ _ h2⟩
section
variable {σ : L2.St} {H : Hp} {ta tb : TE} {tz tu : TS} {D : Ends} {K : PySem.W.Frag} {i j : Nat}
theorem ev_indexN {l : Addr} {ns : List Str} {z : Str} {j : Nat} (ha : Ev ta σ H (.ref l)) (hb : Ev tb σ H (.str z)) (hl : H l = some (.lst (ns.map V.str))) (nd : ns.Nodup) (hj : ns[j]? = some z) : Ev (tBM K "list" (rIndex K) ta (tCons tb tNil)) σ H (.int (j : Int)) := fun H1 e Q q =>
  ha H1 e _ fun H2 e2 => ⟨.inl ⟨rfl, _, sq_of ((e.trans e2) _ _ hl)⟩, hb H2 (e.trans e2) _ fun H3 e3 => by
    refine ⟨l, ns.map V.str, .str z, j, .str z, rfl, rfl, sq_of (((e.trans e2).trans e3) _ _ hl), rfl, flat_zs, by rw [List.getElem?_map, hj]; rfl, by show (z == z) = true; exact beq_self_eq_true z, fun m y hm hy => ?_, ?_⟩
    · rw [List.getElem?_map] at hy
      cases hn : ns[m]? with
      | none =>
        rw [hn] at hy
        cases hy
      | some n =>
        rw [hn] at hy
        cases hy
        show (n == z) = false
        refine beq_eq_false_iff_ne.mpr fun y => ?_
        rw [y] at hn
        have := (List.getElem?_inj (List.getElem?_eq_some_iff.mp hn).1 nd).mp (hn.trans hj.symm)
        omega
    · exact q H3 (e2.trans e3)⟩
/-- for name in sorted(names) -/
theorem q_forSorted {nl : Addr} {ns : List Str} (s1 : σ[i]? = some (some (.ref nl))) (hn : H nl = some (.lst (ns.map V.str))) (h64 : ns.length < 64) (Pv : List Str → Addr → Nat → L2.St → Hp → Prop) (h0 : ∀ ys p H1, ys.Perm ns → PyProof.Rows.sortedS ys = true → H p = none → Ex H H1 → H1 p = some (.lst (ys.map V.str)) → Pv ys p 0 σ H1)
    (hl : ∀ ys p i σ' H', Pv ys p i σ' H' → H' p = some (.lst (ys.map V.str)))
    (hs : ∀ (ys : List Str) p n z σ' H', ys.Perm ns → PyProof.Rows.sortedS ys = true → ys[n]? = some z → Pv ys p n σ' H' → tu { D with nx := Pv ys p (n + 1), ct := Pv ys p (n + 1), bk := tz D } (σ'.set j (some (.str z))) H')
    (hd : ∀ ys p σ' H', ys.Perm ns → PyProof.Rows.sortedS ys = true → Pv ys p ys.length σ' H' → tz D σ' H') :
    tSeq (tFor (iList K (tCB (rSortedS K) (tCons (tVar i) tNil))) (gName j) tu) tz D σ H := by
  refine ⟨_, s1, nl, ns, rfl, sq_of hn, h64, fun ys p hp hs9 hn9 => ?_⟩
  have e2 : Ex H (upd H p (.lst (ys.map V.str))) := Ex.new hn9
  have h2' : (upd H p (.lst (ys.map V.str))) p = some (.lst (ys.map V.str)) := upd_same
  generalize upd H p (.lst (ys.map V.str)) = H2 at e2 h2'
  have key : tSeq (tFor (iList K (tC (.ref p))) (gName j) tu) tz D σ H2 := q_forLn (K := K) (xs := ys.map V.str) ev_c (sq_of h2') (Pv ys p) (fun H3 e3 => h0 ys p H3 hp hs9 hn9 (e2.trans e3) (e3 _ _ h2')) (fun n σ' H' _ h => sq_of (hl ys p n σ' H' h)) (fun n x σ' H' hx h => by
    rw [List.getElem?_map] at hx
    cases hz : ys[n]? with
    | none =>
      rw [hz] at hx
      cases hx
    | some z =>
      rw [hz] at hx
      cases hx
      exact hs ys p n z σ' H' hp hs9 hz h) (fun σ' H' h => hd ys p σ' H' hp hs9 (by rw [List.length_map] at h; exact h))
  exact key
end
section
variable {P : Program} {w : World} {K : PySem.W.Frag} {mg : Str → Option Value} {base : Heap}
def spLeast : Sp := fun vs H Q _ => ∃ (nl dl : Addr) (xs : List V) (ds : Ds), vs = [.ref nl, .ref dl] ∧ H nl = some (.lst ((ds.map (·.1)).map V.str)) ∧ H dl = some (.lst xs) ∧ LsA DlAt H xs (ds.map fun d => dcs d.2.2) ∧ (ds.map (·.1)).Nodup ∧ ds.length ≤ 12 ∧ Closed (edOf ds) ∧ (∀ d ∈ ds, (dcs d.2.2).length ≤ 100) ∧ ∀ o, EndOut ds o → RetV (.str (o.getD "")) H Q
abbrev nsLeast : List Str := ["_law_names", "_law_direct", "_law_name", "_law_reached", "_law_waiting", "_law_one", "_law_word"]
theorem scLeast : FnScope nsLeast ["_law_names", "_law_direct"] (defScope (topS 61)) := ⟨rfl, rfl, rfl, by decide +kernel, rfl, by decide +kernel, by decide +kernel⟩
theorem ok_least {f : Addr} {fd : FuncData} (F : Fun K "_law_least" "_law_least" (topS 61) f fd) (hs : mg "sorted" = none) : FnOk P w K mg base CX0 1 f fd ["_law_names", "_law_direct"] spLeast := by
  refine F.ok scLeast (fun vs H Q E h => ?_) (fun cdv A outer s H vs Q E hr h => ?_)
  · obtain ⟨nl, dl, xs, ds, rfl, _⟩ := h
    rfl
  · obtain ⟨nl, dl, xs, ds, rfl, hn, hd, hxs, nd, h12, hcl, hsz, q⟩ := h
    refine ⟨_, pss_cons (ps_for PassesOwn.never rfl (pi_list (pe_callB cr_sortedS (by rfl) hs (by decide +kernel) (pa_cons (pv 0) pa_nil))) (pg_name (i := 2) scLeast.nd rfl (Or.inl rfl))
        (pss_cons (ps_set (i := 3) scLeast.nd rfl (Or.inl rfl) (pe_lst pa_nil))
        (pss_cons (ps_set (i := 4) scLeast.nd rfl (Or.inl rfl) (pe_lst (pa_cons (pv 2) pa_nil)))
        (pss_cons (ps_while PassesOwn.never (pt_cmpR (op_neNil hr.units0) (pv 4) (pe_lst pa_nil) (nomark _))
          (pss_cons (ps_set (i := 5) scLeast.nd rfl (Or.inl rfl) (pe_bm0 PySem.F.plainAttrs_list PySem.F.slot_list_pop PySem.F.type_list_pop mt_pop (pv 4)))
          (pss_one (ps_for PassesOwn.never rfl (pi_list (pe_ix ix_list (pv 1) (pe_bm PySem.F.plainAttrs_list PySem.F.slot_list_index PySem.F.type_list_index mt_index (pv 0) (pa_cons (pv 5) pa_nil)) (fun _ _ => rfl))) (pg_name (i := 6) scLeast.nd rfl (Or.inl rfl))
            (pss_one (ps_if (pt_cmpR op_notIn_seq (pv 6) (pv 3) (by rfl))
              (pss_cons (ps_expr (pe_bm PySem.F.plainAttrs_list PySem.F.slot_list_append PySem.F.type_list_append mt_append (pv 3) (pa_cons (pv 6) pa_nil)))
              (pss_one (ps_expr (pe_bm PySem.F.plainAttrs_list PySem.F.slot_list_append PySem.F.type_list_append mt_append (pv 4) (pa_cons (pv 6) pa_nil))))) pss_nil))))))
        (pss_one (ps_if (pt_cmpR op_in_seq (pv 2) (pv 3) (by rfl)) (pss_one (ps_ret (pv 2))) pss_nil))))))
      (pss_one (ps_ret pe_str)), ?_⟩
    have ek : ∀ y, y ∈ (edOf ds).map (·.1) ↔ y ∈ ds.map (·.1) := fun y => by rw [edOf_keys]
    refine q_forSorted (K := K) (ns := ds.map (·.1)) rfl hn (by rw [List.length_map]; omega) (fun ys p i σ' H' => ∃ v2 v3 v4 v5 v6 : Option V, σ' = [some (.ref nl), some (.ref dl), v2, v3, v4, v5, v6] ∧ Ex H H' ∧ H' p = some (.lst (ys.map V.str)) ∧ ∀ y ∈ ys.take i, ¬ Reach (edOf ds) y y)
      (fun ys p H1 hp hs9 hn9 e1 h1 => ⟨_, _, _, _, _, rfl, e1, h1, fun y hy => by simp at hy⟩) (fun ys p i σ' H' ⟨_, _, _, _, _, _, _, h, _⟩ => h) (fun ys p i z σ' H' hp hs9 hz ⟨v2, v3, v4, v5, v6, hσ, he, hpl, hno⟩ => ?_) (fun ys p σ' H' hp hs9 ⟨v2, v3, v4, v5, v6, hσ, he, hpl, hno⟩ => ?_)
    · subst hσ
      have hzn : z ∈ ds.map (·.1) := hp.subset (List.mem_of_getElem? hz)
      have hpH' : ∀ {c : Addr}, H' c = none → c ≠ p := fun hc z => by
        rw [z, hpl] at hc
        cases hc
      refine q_asgL (xs := []) lst0 (fun fa H1 hfa e1 h1 => ?_)
      refine q_asgL (xs := [.str z]) (el_lst (ea_cons (ev_var rfl) ea_nil) (by show 1 ≤ 100000; decide)) (fun la H2 hla e2 h2 => ?_)
      have nfl : fa ≠ la := ne_of_none h1 hla
      have hfa0 : H' fa = none := hfa
      have hla0 : H' la = none := fresh_back e1 hla
      have len : (edOf ds).length = ds.length := by unfold edOf; rw [List.length_map]
      refine q_while (fun m σ' H9 => ∃ (fs ls : List Str) (v5 v6 : Option V), σ' = [some (.ref nl), some (.ref dl), some (.str z), some (.ref fa), some (.ref la), v5, v6] ∧ Ex H' H9 ∧ H9 fa = some (.lst (fs.map V.str)) ∧ H9 la = some (.lst (ls.map V.str)) ∧ Wl (edOf ds) z fs ls ∧ m = (12 - fs.length) * 2 + ls.length ∧ ls.length ≤ 1 + fs.length) _ ⟨[], [z], _, _, rfl, e1.trans e2, e2 _ _ h1, h2, Wl.start ((ek z).mpr hzn), rfl, Nat.le_refl _⟩ (fun m σ' H9 ⟨fs, ls, v5, v6, hσ, e, k1, k2, wk, hm, hll⟩ => ?_)
      subst hσ
      refine ⟨!((ls.map V.str).isEmpty), et_test (ev_opL (ev_var rfl) lst0 (fun p H9 hp e9 => rv_neNil (sq_of (e9 _ _ k2)) (sq_of hp))), fun hb H3 e3 => ?_, fun hb H3 e3 => ?_⟩
      · have hne : ls ≠ [] := fun y => by
          rw [y] at hb
          cases hb
        obtain ⟨ls', x, rfl⟩ : ∃ ls' x, ls = ls' ++ [x] := ⟨ls.dropLast, ls.getLast hne, (List.dropLast_concat_getLast hne).symm⟩
        refine ⟨fun σ2 H2 => ∃ m', m' < m ∧ ∃ (fs ls : List Str) (v5 v6 : Option V), σ2 = [some (.ref nl), some (.ref dl), some (.str z), some (.ref fa), some (.ref la), v5, v6] ∧ Ex H' H2 ∧ H2 fa = some (.lst (fs.map V.str)) ∧ H2 la = some (.lst (ls.map V.str)) ∧ Wl (edOf ds) z fs ls ∧ m' = (12 - fs.length) * 2 + ls.length ∧ ls.length ≤ 1 + fs.length, fun σ2 H2 h => h, ?_⟩
        have k23 := e3 _ _ k2
        rw [List.map_append] at k23
        refine q_pop (xs := ls'.map V.str) (y := .str x) rfl k23 ?_
        have x4 : Ex H' (upd H3 la (.lst (ls'.map V.str))) := Ex.mut (e.trans e3) hla0
        have f4 : (upd H3 la (.lst (ls'.map V.str))) fa = some (.lst (fs.map V.str)) := by
          rw [upd_ne nfl]
          exact e3 _ _ k1
        have l4 : (upd H3 la (.lst (ls'.map V.str))) la = some (.lst (ls'.map V.str)) := upd_same
        generalize upd H3 la (.lst (ls'.map V.str)) = H4 at x4 f4 l4
        rw [List.length_append] at hm hll
        have e1' : [x].length = 1 := rfl
        have hxk : x ∈ ds.map (·.1) := (ek x).mp (wk.lk x (List.mem_append_right _ (List.mem_singleton.mpr rfl)))
        obtain ⟨jx, hjx⟩ := List.mem_iff_getElem?.mp hxk
        obtain ⟨d, hdj⟩ : ∃ d, ds[jx]? = some d := by
          cases hq : ds[jx]? with
          | none =>
            rw [List.getElem?_map, hq] at hjx
            cases hjx
          | some d => exact ⟨d, rfl⟩
        have hdx : d.1 = x := by
          rw [List.getElem?_map, hdj] at hjx
          exact Option.some.inj hjx
        have hlk : (edOf ds).lookup x = some (dcs d.2.2) := by
          rw [← hdx]
          exact ed_at nd hdj
        have hxr : x = z ∨ Reach (edOf ds) z x := (wk.lr x (List.mem_append_right _ (List.mem_singleton.mpr rfl))).imp id (wk.re x)
        obtain ⟨vx, lx, hv1, hv2, a, ha, hal⟩ : ∃ v l, xs[jx]? = some v ∧ (ds.map fun d => dcs d.2.2)[jx]? = some l ∧ DlAt H v l := by
          have hlt : jx < xs.length := by
            rw [hxs.length, List.length_map]
            exact (List.getElem?_eq_some_iff.mp hdj).1
          exact hxs.at_ hlt
        have hlx : lx = dcs d.2.2 := by
          rw [List.getElem?_map, hdj] at hv2
          exact (Option.some.inj hv2).symm
        subst hlx ha
        have xH4 : Ex H H4 := he.trans x4
        refine s_forLn (K := K) (xs := (dcs d.2.2).map V.str) (a := a) (ev_op (x := .ref dl) (y := .int (jx : Int)) (ev_var rfl) (ev_indexN (ev_var rfl) (ev_var rfl) (xH4 _ _ hn) nd hjx) (rv_ixL (sq_of (xH4 _ _ hd)) (atI_nat hv1))) (sq_of (xH4 _ _ hal))
          (fun i σ' H9 => ∃ (fs2 ls2 : List Str) (v6 : Option V), σ' = [some (.ref nl), some (.ref dl), some (.str z), some (.ref fa), some (.ref la), some (.str x), v6] ∧ Ex H' H9 ∧ H9 fa = some (.lst (fs2.map V.str)) ∧ H9 la = some (.lst (ls2.map V.str)) ∧ Wi (edOf ds) z x (dcs d.2.2) i fs2 ls2 ∧ (12 - fs2.length) * 2 + ls2.length < m ∧ ls2.length ≤ 1 + fs2.length)
          (fun H5 e5 => ⟨fs, ls', _, rfl, x4.trans e5, e5 _ _ f4, e5 _ _ l4, wk.enter, by omega, by omega⟩) (fun i σ' H9 _ ⟨_, _, _, _, e9, _⟩ => sq_of ((he.trans e9) _ _ hal)) (fun i v σ' H9 hv ⟨fs2, ls2, v6, hσ, e9, g1, g2, wi, hm2, hl2⟩ => ?_) (fun σ' H9 ⟨fs2, ls2, v6, hσ, e9, g1, g2, wi, hm2, hl2⟩ => ?_)
        · subst hσ
          rw [List.getElem?_map] at hv
          cases hy : (dcs d.2.2)[i]? with
          | none =>
            rw [hy] at hv
            cases hv
          | some y =>
            rw [hy] at hv
            cases hv
            have hfl2 := nd_le wi.nd wi.fk
            rw [List.length_map, len] at hfl2
            refine s_when (b := !decide (y ∈ fs2)) (et_is (et_test (ev_op (ev_var rfl) (ev_var rfl) (rv_niL (sq_of g1) rfl flat_zs))) (by rw [inV_zs])) (fun hb2 H5 e5 => ?_) (fun hb2 H5 e5 => ?_)
            · have hyf : y ∉ fs2 := by simpa using hb2
              have wn := wi.new hxr hlk hcl hy hyf
              have hfl3 := nd_le wn.nd wn.fk
              rw [List.length_map, len, List.length_append] at hfl3
              have e1'' : [y].length = 1 := rfl
              refine q_app (xs := fs2.map V.str) (v := .str y) (e5 _ _ g1) (ev_var rfl) (ev_var rfl) (by rw [List.length_map]; omega) (fun H6 e6 => ?_)
              have x6 : Ex H' (upd H6 fa (.lst (fs2.map V.str ++ [.str y]))) := Ex.mut ((e9.trans e5).trans e6) hfa0
              refine s_app (xs := ls2.map V.str) (v := .str y) (by rw [upd_ne nfl.symm]; exact (e5.trans e6) _ _ g2) (ev_var rfl) (ev_var rfl) (by rw [List.length_map]; omega) (fun H7 e7 => ?_)
              refine ⟨fs2 ++ [y], ls2 ++ [y], _, rfl, Ex.mut (x6.trans e7) hla0, ?_, by rw [upd_same, List.map_append]; rfl, wn, ?_, ?_⟩
              · rw [upd_ne nfl, e7 _ _ upd_same, List.map_append]
                rfl
              · rw [List.length_append, List.length_append]
                omega
              · rw [List.length_append, List.length_append]
                omega
            · have hyf : y ∈ fs2 := by simpa using hb2
              exact ⟨fs2, ls2, _, rfl, e9.trans e5, e5 _ _ g1, e5 _ _ g2, wi.old hy hyf, hm2, hl2⟩
        · subst hσ
          rw [List.length_map] at wi
          exact ⟨_, hm2, fs2, ls2, _, _, rfl, e9, g1, g2, wi.leave hlk, rfl, hl2⟩
      · have hnil : ls = [] := by
          cases z : ls with
          | nil => rfl
          | cons y ys =>
            rw [z] at hb
            cases hb
        subst hnil
        refine s_when (b := decide (z ∈ fs)) (et_is (et_test (ev_op (ev_var rfl) (ev_var rfl) (rv_isL (sq_of (e3 _ _ k1)) rfl flat_zs))) inV_zs) (fun hb2 H4 e4 => ?_) (fun hb2 H4 e4 => ⟨_, _, _, _, _, rfl, ((he.trans e).trans e3).trans e4, ((e.trans e3).trans e4) _ _ hpl, fun y hy => ?_⟩)
        · have hz2 : Reach (edOf ds) z z := (wk.done z).mp (of_decide_eq_true hb2)
          exact s_ret (ev_var rfl) (fun H5 e5 => q (some z) ⟨ys, hp, hs9, .inr ⟨i, z, hz, rfl, hz2, hno⟩⟩ H5 ((((he.trans e).trans e3).trans e4).trans e5))
        · rw [List.take_add_one, hz] at hy
          rcases List.mem_append.mp hy with hy | hy
          · exact hno y hy
          · rw [List.mem_singleton.mp hy]
            exact fun h => of_decide_eq_false hb2 ((wk.done z).mpr h)
    · subst hσ
      rw [List.take_length] at hno
      exact s_ret ev_c (fun H5 e5 => q none ⟨ys, hp, hs9, .inl ⟨rfl, hno⟩⟩ H5 (he.trans e5))
end
end Fs

set_option Elab.async false
set_option linter.all false
set_option maxRecDepth 100000
set_option maxHeartbeats 2000000
/-! a class made by its name within a try: what is raised may ask for the slots -/
namespace FsS
open PySem PySem.Spec PyProof.Rows L2
def tMakeS (C : Addr) (sp : Sp) (E : L2.St → XK) (t : TA) : TE := fun σ H Q => t σ H fun vs H1 => ∀ x dx, H1 x = none → H1 dx = none → dx ≠ x →
  sp (.ref x :: vs) (upd (upd H1 dx (.own x)) x (.ins C dx [])) (fun v H2 => v = .non ∧ Q (.ref x) H2) (E σ)
section
variable {X : Cx} {CX : CXT} {k : Nat} {f C : Addr} {fd : FuncData} {ps : List Str} {sp : Sp} {E : L2.St → XK} {x : Str} {p pos : Pos} {e : Expr} {es : List Expr} {t : TA}
theorem run_makeS {pins : List (Addr × Obj)} {σ : L2.St} {H : Hp} {s : Shared} {Q : VK} {us : List Value} {vs : List V} (M : Mk X.K C f) (F : FnOk X.prog X.w X.K X.mg X.base CX k f fd ps sp) (hr : Room (k + 1) X.A) (hb : Binds X.K fd ps [])
    (hx : PassesAt CX X σ (E σ)) (I : Inv X pins σ H s) (r : Vals vs us)
    (h : ∀ x dx, H x = none → H dx = none → dx ≠ x → sp (.ref x :: vs) (upd (upd H dx (.own x)) x (.ins C dx [])) (fun v H2 => v = .non ∧ Q (.ref x) H2) (E σ)) :
    wpAny (model X.prog X.w) X.A (call (.ref C) us) (EP X pins σ Q) X.xe s := by
  have hq := h (s.heap.objs.size + 1) s.heap.objs.size (I.hok.fresh (Nat.le_succ _)) (I.hok.fresh (Nat.le_refl _)) (Nat.ne_of_lt (Nat.lt_succ_self _))
  have I2 := Inv.made (C := C) I
  have r2 : Vals (V.ref (s.heap.objs.size + 1) :: vs) (Value.ref (s.heap.objs.size + 1) :: us) := .cons rfl r
  have hl : (Value.ref (s.heap.objs.size + 1) :: us).length = ps.length := by
    have e := r2.length
    rw [F.len _ _ _ _ hq] at e
    exact e.symm
  have b := hb _ (Value.ref (s.heap.objs.size + 1) :: us) I2.kIn (by rw [List.append_nil]; exact hl)
  rw [List.append_nil] at b
  refine wpAny_call (make_map (f := f) I.kIn M.makes M.init (beq_iff_eq.mp M.fn) (codeAny_mono (F.run _ X.stack _ _ ⟨Value.ref (s.heap.objs.size + 1) :: us, []⟩ (Value.ref (s.heap.objs.size + 1) :: us) _ _ (E σ) (hr.make C us [])
    (I2.env0.make C us []) b r2 hq) fun r s' hq' => ?_))
  cases r with
  | error e => exact hx pins _ _ e s' I2 hq'
  | ok fl =>
    cases fl with
    | ret u =>
      obtain ⟨v, H', I3, rv, ev, q3⟩ := I2.after hq'
      subst ev
      exact ⟨rv, ⟨V.ref (s.heap.objs.size + 1), H', I3, rfl, q3⟩⟩
    | next => exact False.elim hq'
    | brk => exact False.elim hq'
    | cont => exact False.elim hq'
theorem pe_makeS (M : Mk X.K C f) (F : FnOk X.prog X.w X.K X.mg X.base CX k f fd ps sp) (hr : Room (k + 1) X.A) (hg : Gl X x) (hm : X.mg x = some (.ref C)) (hb : Binds X.K fd ps []) (hx : ∀ σ, PassesAt CX X σ (E σ))
    (ha : PA X (e :: es) t) (hdb : (x == ("__debug__" : Str)) = false := by decide) (he : starEach (e :: es) X.env = (false, eval e X.env) :: starEach es X.env := by rfl) (hpl : (backTo pos (starEach es X.env)).any (·.1) = false := by rfl) :
    PE X (.Call (.Name x p) (e :: es) [] pos) (tMakeS C sp E t) := by
  refine ⟨fun pins s σ H Q I h => ?_⟩
  refine wpAny_Call_Name_kw (ld_glob I hg hm ?_ hdb)
  refine PySem.W.callWith_K (h₀ := X.base) I.ok.mod.kin M.kp (thn (ha.run pos pins s σ H _ I h) fun us s1 ⟨vs, H1, I1, r, q⟩ => ⟨I1.kIn, ?_⟩) he hpl
  exact run_makeS M F hr hb (hx _) I1 r q
end
end FsS

set_option Elab.async false
set_option linter.all false
set_option maxRecDepth 100000
set_option maxHeartbeats 16000000
/-! the law: what is due, the state of its loop -/
namespace Fs
open PySem L2 Evl FsE FsC FsR FsA FsD FsU FsK StX FsI FsT FsS
theorem endOut_uniq {ds : Ds} {o o' : Option Str} (h : EndOut ds o) (h' : EndOut ds o') : o = o' := by
  obtain ⟨ys, hp, hs, h⟩ := h
  obtain ⟨ys', hp', hs', h'⟩ := h'
  obtain rfl : ys = ys' := sorted_uniq hs hs' hp hp'
  rcases h with ⟨rfl, h⟩ | ⟨i, z, hz, rfl, hr, hn⟩
  · rcases h' with ⟨rfl, h'⟩ | ⟨i', z', hz', rfl, hr', hn'⟩
    · rfl
    · exact absurd hr' (h z' (List.mem_of_getElem? hz'))
  · rcases h' with ⟨rfl, h'⟩ | ⟨i', z', hz', rfl, hr', hn'⟩
    · exact absurd hr (h' z (List.mem_of_getElem? hz))
    · have lt : ∀ {a b : Nat} {x : Str}, ys[a]? = some x → a < b → x ∈ ys.take b := fun {a b x} hx hab => List.mem_of_getElem? (i := a) (by rw [List.getElem?_take, if_pos hab]; exact hx)
      rcases Nat.lt_trichotomy i i' with hlt | rfl | hlt
      · exact absurd hr (hn' z (lt hz hlt))
      · rw [hz] at hz'
        exact hz'
      · exact absurd hr' (hn z' (lt hz' hlt))
abbrev words8 : List Str := ["b", "ab", "z", "a", "aa", "m1", "m", "y"]
theorem w8 : ∀ z ∈ words8, nameS z = true ∧ z.length ≤ 8 := by decide +kernel
theorem w8nd : words8.Nodup := by decide +kernel
def nms (t n : Nat) : List Str := (words8.drop t ++ words8.take t).take n
theorem nms_perm (t : Nat) : (words8.drop t ++ words8.take t).Perm words8 := by
  have h := List.perm_append_comm (l₁ := words8.drop t) (l₂ := words8.take t)
  rw [List.take_append_drop] at h
  exact h
theorem nms_nd {t n : Nat} : (nms t n).Nodup := ((nms_perm t).nodup_iff.mpr w8nd).sublist (List.take_sublist _ _)
theorem nms_in {t n : Nat} {z : Str} (h : z ∈ nms t n) : z ∈ words8 := (nms_perm t).subset (List.mem_of_mem_take h)
theorem nms_len {t n : Nat} (h : n ≤ 8) : (nms t n).length = n := by
  unfold nms
  rw [List.length_take, (nms_perm t).length_eq]
  show min n 8 = n
  omega
theorem cut_dropB {xs : List V} {k : Nat} : cutV xs (some (k : Int)) none = xs.drop k := by
  unfold cutV
  rw [HT.sIx_nat]
  show (xs.drop (min k xs.length)).take (xs.length - min k xs.length) = _
  by_cases h : k ≤ xs.length
  · rw [Nat.min_eq_left h, List.take_of_length_le (by rw [List.length_drop]; omega)]
  · rw [Nat.min_eq_right (by omega), List.drop_of_length_le (Nat.le_refl _), List.drop_of_length_le (by omega), List.take_nil]
/-- the start process -/
def startP (way : Int) (n0 : Str) : Pr := if way = 2 then .call n0 [.int 5] else if way = 3 then .choice (.cons "u" 0 1 (.int 5) [] (.call n0 []) .nil) else .call n0 []
structure DsOk (ns : List Str) (ds : Ds) : Prop where
  keys : ds.map (·.1) = ns
  nd : ns.Nodup
  ok : ∀ d ∈ ds, d.2.1 = [] ∧ OkP ns 20 400 d.2.2 ∧ (dcs d.2.2).length ≤ 3
theorem DsOk.lk {ns : List Str} {ds : Ds} (h : DsOk ns ds) : ∀ y ∈ ns, ∃ d, lkD ds y = some ([], d) := fun y hy => by
  obtain ⟨d, hd⟩ := lkD_of (ds := ds) (z := y) (by rw [h.keys]; exact hy)
  have hm := lkD_mem hd
  have := (h.ok _ hm).1
  exact ⟨d.2, by rw [hd, show d = ([], d.2) from by rw [← this]]⟩
theorem DsOk.closed {ns : List Str} {ds : Ds} (h : DsOk ns ds) : Closed (edOf ds) := fun x y ⟨l, hl, hy⟩ => by
  rw [edOf_lookup] at hl
  cases hq : lkD ds x with
  | none =>
    rw [hq] at hl
    cases hl
  | some d =>
    rw [hq] at hl
    cases hl
    rw [edOf_keys, h.keys]
    exact (h.ok _ (lkD_mem hq)).2.1.dc y hy
theorem fstF_all : ∀ {xs : List (Option Flt)}, (∀ x ∈ xs, x = none) → fstF xs = none
  | [], _ => rfl
  | x :: xs, h => by
    have hx := h x (List.mem_cons_self ..)
    subst hx
    exact fstF_all (xs := xs) fun y hy => h y (List.mem_cons_of_mem _ hy)
theorem nm14 {ns : List Str} {ds : Ds} {s : Pr} {o : Option Flt} (h : DsOk ns ds) (ho : NmOut ["c"] ds [.choice .nil, s] o) : o = fPr ds ["c"] s := by
  obtain ⟨ys, hp, _, ho⟩ := ho
  have h1 : fstF (ys.map (fDf ["c"] ds)) = none := fstF_all fun x hx => by
    obtain ⟨y, hy, rfl⟩ := List.mem_map.mp hx
    unfold fDf
    cases hq : lkD ds y with
    | none => rfl
    | some d =>
      obtain ⟨g1, g2, _⟩ := h.ok _ (lkD_mem hq)
      have g1 : d.1 = [] := g1
      show fPr ds ([("c" : Str)] ++ d.1) d.2 = none
      rw [g1, List.append_nil]
      exact g2.f ds _ (List.mem_singleton.mpr rfl) h.lk
  rw [ho, h1]
  show fstF [fPr ds ["c"] (.choice .nil), fPr ds ["c"] s] = _
  have h2 : fPr ds ["c"] (.choice .nil) = none := by rw [fPr, fOfs]
  rw [h2]
  show orF (fPr ds ["c"] s) none = _
  exact orF_none
theorem out14 {ns : List Str} {ds : Ds} {way : Int} {n0 : Str} (h : DsOk ns ds) (hn : n0 ∈ ns) (h0 : 0 ≤ way) (h4 : way < 4) : ∀ o, PgOut [("c", 2, 0)] ds [.choice .nil, startP way n0] o →
    (way = 2 ∧ o = some (.nm (.count n0))) ∨ (way = 3 ∧ o = some (.nm (.name "u"))) ∨ (way < 2 ∧ ∃ oe, EndOut ds oe ∧ o = oe.map Fpg.ends) := by
  intro o ho
  obtain ⟨d0, hd0⟩ := h.lk n0 hn
  have hch : fChans (([.choice .nil, startP way n0] : List Pr).length : Int) [("c", 2, 0)] = none := by
    show fChans 2 [("c", 2, 0)] = none
    have e1 : nameS "c" = true := by decide +kernel
    unfold fChans
    rw [if_pos (by show 1 ≤ 8; decide)]
    show (match fCh [] 2 ("c", 2, 0) with | some f => some f | none => none) = none
    have : fCh [] 2 ("c", 2, 0) = none := by
      unfold fCh
      rw [e1]
      rfl
    rw [this]
  have hc : way = 0 ∨ way = 1 ∨ way = 2 ∨ way = 3 := by omega
  have c0 : fPr ds ["c"] (.call n0 []) = none := by
    rw [fPr]
    exact fCall_ok hd0
  have fs : fPr ds ["c"] (startP way n0) = if way = 2 then some (.count n0) else if way = 3 then some (.name "u") else none := by
    rcases hc with rfl | rfl | rfl | rfl
    · exact c0
    · exact c0
    · show fPr ds ["c"] (.call n0 [.int 5]) = some (.count n0)
      rw [fPr]
      unfold fCall
      rw [hd0]
      rfl
    · show fPr ds ["c"] (.choice (.cons "u" 0 1 (.int 5) [] (.call n0 []) .nil)) = some (.name "u")
      rw [fPr, fOfs]
      have u : unb ["c"] [.nm "u", .int 5] = some "u" := by
        show (if ("u" : Str) ∈ (["c"] : List Str) then unb ["c"] [.int 5] else some "u") = some ("u" : Str)
        rw [if_neg (by decide +kernel)]
      rw [u]
      rfl
  unfold PgOut at ho
  rw [hch] at ho
  have nm : ∀ {q : Option Flt}, NmOut ["c"] ds [.choice .nil, startP way n0] q → q = if way = 2 then some (.count n0) else if way = 3 then some (.name "u") else none := fun hq => (nm14 h hq).trans fs
  rcases ho with ⟨g, _⟩ | ⟨_, f, g, _⟩ | ⟨_, _, f, g, rfl⟩ | ⟨_, _, g, z, ge, rfl⟩ | ⟨_, _, g, ge, rfl⟩
  · cases g
  · cases g
  · have e := nm g
    rcases hc with rfl | rfl | rfl | rfl
    · cases e
    · cases e
    · cases e
      exact .inl ⟨rfl, rfl⟩
    · cases e
      exact .inr (.inl ⟨rfl, rfl⟩)
  · have e := nm g
    rcases hc with rfl | rfl | rfl | rfl
    · exact .inr (.inr ⟨by decide, some z, ge, rfl⟩)
    · exact .inr (.inr ⟨by decide, some z, ge, rfl⟩)
    · cases e
    · cases e
  · have e := nm g
    rcases hc with rfl | rfl | rfl | rfl
    · exact .inr (.inr ⟨by decide, none, ge, rfl⟩)
    · exact .inr (.inr ⟨by decide, none, ge, rfl⟩)
    · cases e
    · cases e
/-- the state of the law's loop -/
structure LSt (CK CD C b dl : Addr) (H : Hp) (ns : List Str) (ds : Ds) (xs : List V) : Prop where
  bk : BkP CK CD C H b ds
  hd : H dl = some (.lst xs)
  dv : LsA DlAt H xs (ds.map fun d => dcs d.2.2)
  ne : ∀ v ∈ xs, v ≠ .ref dl
  ok : ∀ d ∈ ds, d.2.1 = [] ∧ OkP ns 20 400 d.2.2 ∧ (dcs d.2.2).length ≤ 3
theorem LSt.ex {CK CD C b dl : Addr} {H H' : Hp} {ns : List Str} {ds : Ds} {xs : List V} (e : Ex H H') (h : LSt CK CD C b dl H ns ds xs) : LSt CK CD C b dl H' ns ds xs := ⟨h.bk.ex e, e _ _ h.hd, h.dv.imp fun _ _ z => z.ex e, h.ne, h.ok⟩
theorem TbP.snoc {CD C : Addr} {H : Hp} {z : Str} {v : V} {d : List Str × Pr} {kvs : List (Key × V)} {ds : Ds} (h : TbP CD C H kvs ds) (hz : z ∉ ds.map (·.1)) (hv : DvAt CD C H v (z, d)) (hs : z.length ≤ 1000 ∧ d.1.length ≤ 100 ∧ d.2.depth ≤ 20 ∧ d.2.sh) (hsz : d.2.size ≤ 400) (hl : ds.length + 1 ≤ 12) : TbP CD C H (putK kvs (.inr z) v) (ds ++ [(z, d)]) := by
  have hn : lkD ds z = none := by
    cases hq : lkD ds z with
    | none => rfl
    | some d' => exact absurd (List.mem_map.mpr ⟨_, lkD_mem hq, rfl⟩) hz
  rw [putK_new v ((tbp_get (z := z) h.keys h.vals).2 hn)]
  refine ⟨?_, ?_, ?_, fun e he => ?_, by rw [List.length_append]; exact hl, fun e he => ?_⟩
  · rw [List.map_append, List.map_append, h.keys]
    rfl
  · rw [List.map_append]
    exact h.vals.snoc hv
  · rw [List.map_append, List.nodup_append]
    refine ⟨h.nd, by simp, fun a ha b hb e => ?_⟩
    rw [List.mem_singleton.mp hb] at e
    rw [e] at ha
    exact hz ha
  · rcases List.mem_append.mp he with he | he
    · exact h.sm e he
    · rw [List.mem_singleton.mp he]
      exact hs
  · rcases List.mem_append.mp he with he | he
    · exact h.sz e he
    · rw [List.mem_singleton.mp he]
      exact hsz
theorem TbP.keepC {CD C : Addr} {H H' : Hp} {kvs : List (Key × V)} {ds : Ds} (e1 : ExC CD H H') (e2 : ExC C H H') (h : TbP CD C H kvs ds) : TbP CD C H' kvs ds := ⟨h.keys, h.vals.imp fun _ _ ⟨a, b, h1, h2, h3⟩ => ⟨a, b, h1, h2.keepL e1, h3.keepC e2⟩, h.nd, h.sm, h.len, h.sz⟩
theorem ExB.exC {CK X b : Addr} {kvs : List (Key × V)} {H H' : Hp} (h : ExB b H H') (hb : BkAt CK H b kvs) (hne : CK ≠ X) : ExC X H H' := by
  obtain ⟨dx, d, h1, h2⟩ := hb
  refine ⟨fun a dy fs ha => h a _ (fun z => ?_) ha, fun a xs ha => h a _ (fun z => ?_) ha⟩
  · rw [z, h1] at ha
    cases ha
    exact hne rfl
  · rw [z, h1] at ha
    cases ha
theorem ExB.lst {CK b l : Addr} {H H' : Hp} {kvs : List (Key × V)} {xs : List V} (h : ExB b H H') (hb : BkAt CK H b kvs) (hl : H l = some (.lst xs)) : H' l = some (.lst xs) := by
  obtain ⟨dx, d, h1, h2⟩ := hb
  refine h l _ (fun z => ?_) hl
  rw [z, h1] at hl
  cases hl
/-- the errors' classes, as the law asks them -/
structure ErrW (K : PySem.W.Frag) (mg : Str → Option Value) (CW CN CE : Addr) : Prop where
  gW : mg "WrongCount" = some (.ref CW)
  gN : mg "NoName" = some (.ref CN)
  gE : mg "Endless" = some (.ref CE)
  xW : XfC K CW
  xN : XfC K CN
  xE : XfC K CE
  nW : PySem.W.findIn K (.ref CW) "name" = some none
  nN : PySem.W.findIn K (.ref CN) "name" = some none
  nE : PySem.W.findIn K (.ref CE) "name" = some none
  tWW : PySem.W.exmOne K (.ref CW) (.ref CW) = some true
  tNW : PySem.W.exmOne K (.ref CN) (.ref CW) = some false
  tNN : PySem.W.exmOne K (.ref CN) (.ref CN) = some true
  tEW : PySem.W.exmOne K (.ref CE) (.ref CW) = some false
  tEN : PySem.W.exmOne K (.ref CE) (.ref CN) = some false
  tEE : PySem.W.exmOne K (.ref CE) (.ref CE) = some true
theorem lk1f {f : Str} {v : V} : List.lookup f [(f, v)] = some v := by rw [List.lookup_cons, beq_self_eq_true]
end Fs

set_option Elab.async false
set_option linter.all false
set_option maxRecDepth 100000
set_option maxHeartbeats 16000000
/-! the law -/
namespace Fs
open PySem L2 Evl FsE FsC FsR FsA FsD FsU FsK StX FsI FsT FsS
section
variable {σ : L2.St} {H : Hp} {t : TA} {te t1 t2 : TE} {D : Ends} {sp : Sp} {F : L2.St → XK} {C N CB : Addr} {g : TG} {tz : TS} {E : XK} {K : PySem.W.Frag}
theorem q_mk2 (h : t1 σ H fun x H1 => t2 σ H1 fun y H2 => ∀ a dx, H2 a = none → H2 dx = none → dx ≠ a → sp [.ref a, x, y] (upd (upd H2 dx (.own a)) a (.ins C dx [])) (fun v H3 => v = .non ∧ g (.ref a) σ H3 fun σ2 H4 => tz D σ2 H4) E) : tSeq (tAsg (tMake C sp [] E (tCons t1 (tCons t2 tNil))) g) tz D σ H := h
theorem g_mkS {i : Nat} (k : t σ H fun vs H1 => ∀ x dx, H1 x = none → H1 dx = none → dx ≠ x → sp (.ref x :: vs) (upd (upd H1 dx (.own x)) x (.ins C dx [])) (fun v H2 => v = .non ∧ D.nx (σ.set i (some (.ref x))) H2) (F σ)) : tAsg (tMakeS C sp F t) (gName i) D σ H := k
theorem es_l1 {xs : List V} (h1 : EvU t1 σ H xs) : EvS (tLst (tCons t1 tNil)) σ H (fun v H' => ∃ p a, v = .ref p ∧ H' p = some (.lst [.ref a]) ∧ H' a = some (.tup xs)) := fun H0 e Q q =>
  h1 H0 e _ fun a H1 _ e1 g1 => ⟨by show 1 ≤ sizeLine; decide, fun p hp => q (.ref p) _ (e1.trans (Ex.new hp)) ⟨p, a, rfl, upd_same, (Ex.new hp) _ _ g1⟩⟩
/-- Net([Process.stop(), x]) -/
theorem es_net2 {st : Addr} {i : Nat} {p : Pr} {G : L2.St → XK} (s : σ[i]? = some (some (.ref st))) (h : PrAt C H st p) : EvS (tMake N (spNt0 K N) [] E (tCons (tLst (tCons (tStat C (spStop C CB) G (tC (.ref C)) tNil) (tCons (tVar i) tNil))) tNil)) σ H (fun v H' => ∃ n, v = .ref n ∧ NtQ N C H' n [.choice .nil, p]) := fun H1 e Q q =>
  ⟨rfl, rfl, fun _ s0 H2 hs0 e2 h2 => ⟨_, s, by show 2 ≤ sizeLine; decide, fun l hl => by
    intro x dx hx hdx hne
    refine ⟨x, dx, l, [.ref s0, .ref st], _, rfl, upd_same, hx, own_ex0 hx hdx, .inl (sq_of upd_same), by show 2 ≤ 6; decide, fun H' u e' nv hu => ⟨rfl, q _ H' ((e2.trans (Ex.new hl)).trans e') ⟨x, rfl, u, [.ref s0, .ref st], nv, hu, ⟨s0, rfl, h2.ex ((Ex.new hl).trans e')⟩, ⟨st, rfl, h.ex ((e.trans e2).trans ((Ex.new hl).trans e'))⟩, trivial⟩⟩⟩⟩, fun f hf => by cases hf⟩
theorem ev_xf {a d9 : Addr} {f : Str} {v : V} (h : Ev te σ H (.ref a)) (hd : H d9 = some (.xd [(f, v)])) : Ev (tXf a (.ref C) (some d9) C f te) σ H v := fun H1 e Q q => h H1 e _ fun H2 e2 => ⟨rfl, rfl, d9, _, v, rfl, (e.trans e2) _ _ hd, lk1f, q H2 e2⟩
/-- [5] * int(way == 2) -/
def opsL (way : Int) : List Opd := if way = 2 then [.int 5] else []
theorem el_ops (K : PySem.W.Frag) {i : Nat} {way : Int} (s : σ[i]? = some (some (.int way))) : EvL (tOp rRep (tLst (tCons (tC (.int 5)) tNil)) (tCB (fun xs H Q => (∃ i, xs = [V.int i] ∧ Q (.int i) H) ∨ ∃ k, xs = [V.bl k] ∧ Q (.int (if k then 1 else 0)) H) (tCons (tOp rEq (tVar i) (tC (.int 2))) tNil))) σ H ((opsL way).map Opd.v) := fun H1 e Q q =>
  el_lst (σ := σ) (vs := [.int 5]) (ea_cons ev_c ea_nil) (by show 1 ≤ 100000; decide) H1 (Ex.refl H1) _ fun l H2 hl e2 h2 => ev_cb (z := .int (if decide (V.int way = V.int 2) = true then 1 else 0)) (ea_cons (ev_op (x := .int way) (ev_var s) ev_c (rv_eq rfl)) ea_nil) (rc_intB (K := K)) H2 (Ex.refl H2) _ fun H3 e3 => by
    refine ⟨l, _, [.int 5], rfl, rfl, e3 _ _ h2, by split <;> decide, by split <;> decide, ?_, fun r hr9 => ?_⟩
    · by_cases hw : way = 2
      · subst hw
        exact sz_of (by show 1 * 1 ≤ 100000; decide)
      · rw [decide_eq_false (fun z => hw (V.int.inj z)), if_neg (by decide)]
        exact sz_of (by show 1 * 0 ≤ 100000; decide)
    · have e5 : (List.replicate ((if decide (V.int way = V.int 2) = true then (1 : Int) else 0)).toNat [V.int 5]).flatten = (opsL way).map Opd.v := by
        unfold opsL
        by_cases hw : way = 2
        · subst hw
          rfl
        · rw [decide_eq_false (fun z => hw (V.int.inj z)), if_neg (by decide), if_neg hw]
          rfl
      rw [e5]
      exact q r _ (fresh_back (e2.trans e3) hr9) ((e2.trans e3).trans (Ex.new hr9)) upd_same
end
theorem nu : nameS "u" = true := by decide +kernel
section
variable {P : Program} {w : World} {K : PySem.W.Frag} {mg : Str → Option Value} {base : Heap} {C CB CK CN CD CW CE CM CP N t0 : Addr}
abbrev nsLawE : List Str := ["_law_script", "_law_row_here", "_law_words", "_law_turn", "_law_names", "_law_book", "_law_direct", "_law_k", "_law_body_here", "_law_calls", "_law_due", "_law_way", "_law_start", "_law_program", "e"]
theorem scLawE : FnScope nsLawE ["_law_script"] (defScope (topS 62)) := ⟨rfl, rfl, rfl, by decide +kernel, rfl, by decide +kernel, by decide +kernel⟩
abbrev clW (K : PySem.W.Frag) (CW : Addr) : Addr → Value → Option Addr → TS := fun a cls d => tRet (tAndV (tOp rEq (tVar 11) (tC (.int 2))) (tOp rEq (tXf a cls d CW "name" (tVar 14)) (tOp (rIxL K) (tVar 4) (tC (.int 0)))))
abbrev clNn (K : PySem.W.Frag) (CN : Addr) : Addr → Value → Option Addr → TS := fun a cls d => tRet (tAndV (tOp rEq (tVar 11) (tC (.int 3))) (tOp rEq (tXf a cls d CN "name" (tVar 14)) (tC (.str "u"))))
abbrev clEe (K : PySem.W.Frag) (CE : Addr) : Addr → Value → Option Addr → TS := fun a cls d => tRet (tAndV (tOp (rI0 fun i j => .bl (decide (i < j))) (tVar 11) (tC (.int 2))) (tOp rEq (tXf a cls d CE "name" (tVar 14)) (tVar 10)))
abbrev tPgE (K : PySem.W.Frag) (C CB CK CN CD CW CE CM CP N : Addr) (W : WX) : TS := tAsg (tMakeS CP (spPgI CP CK CD C N CB CM CN CW CE) (WE W) (tCons (tLst (tCons (tTup (tCons (tC (.str "c")) (tCons (tC (.int 2)) (tCons (tC (.int 0)) tNil)))) tNil)) (tCons (tVar 5) (tCons (tMake N (spNt0 K N) [] E0 (tCons (tLst (tCons (tStat C (spStop C CB) (fun _ => E0) (tC (.ref C)) tNil) (tCons (tVar 12) tNil))) tNil)) tNil)))) (gName 13)
theorem ok_law {f fs : Addr} {fd fds : FuncData} {k kb jp : Nat} (hk : 6 ≤ k) (hkb : kb ≤ k) (hj : jp + 1 ≤ k) (nKC : CK ≠ C) (nKD : CK ≠ CD) (F : Fun K "law" "law" (topS 62) f fd) (L : LawT K mg) (TP : TerT K mg C CB) (T : PgT K mg CP) (E1 : ErrW K mg CW CN CE)
    (GC : CalX P w K mg base CX0 1 "_law_cell_at" (spCellAt K)) (GR : CalX P w K mg base CX0 2 "_law_row" spRow) (GB : CalX P w K mg base CX0 kb "_law_body" (spBody C)) (GL : CalX P w K mg base CX0 1 "_law_least" spLeast)
    (MB : MkB0 P w K mg base CK t0) (MD : MakX P w K mg base CX0 3 "Definition" CD (spDfInit CD)) (MN : MakX P w K mg base CX0 3 "Net" N (spNt0 K N)) (MP : MakX P w K mg base (L2.CX P w) jp "Program" CP (spPgI CP CK CD C N CB CM CN CW CE))
    (SS : StaX P w K mg base (L2.CX P w) 5 C "stop" (spStop C CB)) (SO : StaX P w K mg base (L2.CX P w) 5 C "offer" (spOffer C CB)) (SC : StaX P w K mg base (L2.CX P w) 5 C "call" (spCall K C CB))
    (SM : StM K CK fs) (FS : FnOk P w K mg base (L2.CX P w) 5 fs fds ["self", "at", "worth"] (spBkSet CK CB)) (BS : Binds K fds ["self", "at", "worth"] []) :
    FnOk P w K mg base CX0 (k + 1) f fd ["_law_script"] (spLaw K) := by
  refine F.ok scLawE (fun vs H Q E h => ?_) (fun cdv A outer s H vs Q E hr h => ?_)
  · obtain ⟨a, ns, rfl, _⟩ := h
    rfl
  · obtain ⟨a, sn, rfl, hS, q⟩ := h
    refine ⟨_, pss_cons (ps_set (i := 1) scLawE.nd rfl (Or.inl rfl) (pe_cx (E := fun _ => E0) GR hr (by omega) (by rfl) at0 (pa_cons (pe_cx (E := fun _ => E0) GC hr (by omega) (by rfl) at0 (pa_cons (pv 0) (pa_cons pe_int pa_nil))) (pa_cons pe_int pa_nil))))
      (pss_cons (ps_set (i := 2) scLawE.nd rfl (Or.inl rfl) (pe_lst (pa_cons pe_str (pa_cons pe_str (pa_cons pe_str (pa_cons pe_str (pa_cons pe_str (pa_cons pe_str (pa_cons pe_str (pa_cons pe_str pa_nil))))))))))
      (pss_cons (ps_set (i := 3) scLawE.nd rfl (Or.inl rfl) (pe_op op_mod (pe_op op_fdiv (pe_ix ix_list (pv 1) pe_int (fun _ _ => rfl)) pe_int) pe_int))
      (pss_cons (ps_set (i := 4) scLawE.nd rfl (Or.inl rfl) (pe_slice sl_list (pe_op op_cat (pe_slice sl_list (pv 2) (po_some (pv 3)) po_none) (pe_slice sl_list (pv 2) po_none (po_some (pv 3)))) po_none (po_some (pe_op op_add pe_int (pe_op op_mod (pe_callTy call_int1 (by rfl) L.int (by decide +kernel) (pa_cons (pe_ix ix_list (pv 1) pe_int (fun _ _ => rfl)) pa_nil)) pe_int)))))
      (pss_cons (ps_set (i := 5) scLawE.nd rfl (Or.inl rfl) (pe_bk0 (E := E0) MB hr (by omega) (by rfl) pass0))
      (pss_cons (ps_set (i := 6) scLawE.nd rfl (Or.inl rfl) (pe_lst pa_nil))
      (pss_cons (ps_for PassesOwn.never rfl (pi_range1 rfl L.range (pa_cons (pe_callB call_len_seq (by rfl) L.len PySem.boot_len (pa_cons (pv 4) pa_nil)) pa_nil)) (pg_name (i := 7) scLawE.nd rfl (Or.inl rfl))
        (pss_cons (ps_asg (pe_cx (E := fun _ => E0) GB hr hkb (by rfl) at0 (pa_cons (pv 1) (pa_cons (pe_op op_add pe_int (pe_op op_mul pe_int (pv 7))) (pa_cons (pv 4) pa_nil)))) (pg_tup rfl (pgs_cons (pg_name (i := 8) scLawE.nd rfl (.inl rfl)) (pgs_cons (pg_name (i := 9) scLawE.nd rfl (.inl rfl)) pgs_nil))))
        (pss_cons (ps_asg (pe_mx (E := E0) MD hr (by omega) (by rfl) pass0 (pa_cons (pe_lst pa_nil) (pa_cons (pv 8) pa_nil))) (pg_subO (E := fun _ => E0) (pv 5) (pe_ix ix_list (pv 4) (pv 7) (fun _ _ => rfl)) SM FS (hr.mono (by omega)) BS (fun σ => passesAt_of passL σ)))
        (pss_one (ps_expr (pe_bm PySem.F.plainAttrs_list PySem.F.slot_list_append PySem.F.type_list_append mt_append (pv 6) (pa_cons (pv 9) pa_nil)))))))
      (pss_cons (ps_set (i := 10) scLawE.nd rfl (Or.inl rfl) (pe_cx (E := fun _ => E0) GL hr (by omega) (by rfl) at0 (pa_cons (pv 4) (pa_cons (pv 6) pa_nil))))
      (pss_cons (ps_set (i := 11) scLawE.nd rfl (Or.inl rfl) (pe_op op_mod (pe_callTy call_int1 (by rfl) L.int (by decide +kernel) (pa_cons (pe_ix ix_list (pv 1) pe_int (fun _ _ => rfl)) pa_nil)) pe_int))
      (pss_cons (ps_set (i := 12) scLawE.nd rfl (Or.inl rfl) (pe_sx (E := fun _ => E0) SC hr (by omega) (pe_glob (v := .ref C) (by rfl) TP.mgC rfl) (fun σ => passesAt_of passL σ) (pa_cons (pe_ix ix_list (pv 4) pe_int (fun _ _ => rfl)) (pa_cons (pe_op op_rep (pe_lst (pa_cons pe_int pa_nil)) (pe_callTy call_int1 (by rfl) L.int (by decide +kernel) (pa_cons (pe_cmpR op_eq (pv 11) pe_int (nomark _)) pa_nil))) pa_nil))))
      (pss_cut (ps_if (pt_cmpR op_eq (pv 11) pe_int (nomark _)) (pss_one (ps_set (i := 12) scLawE.nd rfl (Or.inl rfl) (pe_sx (E := fun _ => E0) SO hr (by omega) (pe_glob (v := .ref C) (by rfl) TP.mgC rfl) (fun σ => passesAt_of passL σ) (pa_cons pe_str (pa_cons pe_int (pa_cons pe_int (pa_cons pe_int (pa_cons (pe_lst pa_nil) (pa_cons (pv 12) pa_nil))))))))) pss_nil)
      (pss_cons (ps_try_all (qs := [(.ref CW, 14, clW K CW), (.ref CN, 14, clNn K CN), (.ref CE, 14, clEe K CE)]) (tb := tPgE K C CB CK CN CD CW CE CM CP N) (W0 := fun _ _ _ _ => False) rfl rfl scLawE.nd takesF0
        (fun W pn xe tk _ => pss_one (ps_set (i := 13) scLawE.nd rfl (Or.inl rfl) (by exact (by
          obtain ⟨f', fd', ps', M', F', hm', b'⟩ := MP.ex
          exact (pe_makeS M' F' (hr.mono hj) (by rfl) hm' b' (fun σ => passAt tk σ) (pa_cons (pe_lst (pa_cons (pe_tup (pa_cons pe_str (pa_cons pe_int (pa_cons pe_int pa_nil)))) pa_nil)) (pa_cons (pv 5) (pa_cons (pe_mx (E := E0) MN hr (by omega) (by rfl) pass0 (pa_cons (pe_lst (pa_cons (pe_sx0 (E := fun _ => E0) SS hr (by omega) (pe_glob (v := .ref C) (by rfl) TP.mgC rfl) (fun σ => passesAt_of passL σ)) (pa_cons (pv 12) pa_nil))) pa_nil)) pa_nil))))))))
        (.one rfl rfl ⟨rfl, by decide, Or.inl E1.gW⟩ (fun a oe cls d pn hz hf => pss_one (ps_ret (by exact (pe_and (pe_cmpR op_eq (pv 11) pe_int (nomark _)) (pe_one (pe_cmpR op_eq (pe_xf E1.xW E1.nW hz hf (pv 14)) (pe_ix ix_list (pv 4) pe_int (fun _ _ => rfl)) (nomark _)))))))
          (.one rfl rfl ⟨rfl, by decide, Or.inl E1.gN⟩ (fun a oe cls d pn hz hf => pss_one (ps_ret (by exact (pe_and (pe_cmpR op_eq (pv 11) pe_int (nomark _)) (pe_one (pe_cmpR op_eq (pe_xf E1.xN E1.nN hz hf (pv 14)) pe_str (nomark _)))))))
          (.one rfl rfl ⟨rfl, by decide, Or.inl E1.gE⟩ (fun a oe cls d pn hz hf => pss_one (ps_ret (by exact (pe_and (pe_cmpR op_lt (pv 11) pe_int (nomark _)) (pe_one (pe_cmpR op_eq (pe_xf E1.xE E1.nE hz hf (pv 14)) (pv 10) (nomark _))))))) .none))))
      (pss_one (ps_ret (pe_and (pe_cmpR op_lt (pv 11) pe_int (nomark _)) (pe_and (pe_cmpR op_eq (pv 10) pe_str (nomark _)) (pe_one (pe_cmpR op_eq (pe_fld (pv 13) rfl) pe_int (nomark _)))))))))))))))))), ?_⟩
    refine ⟨_, rfl, a, sn, 0, rfl, hS, fun c H1 e1 => ⟨c, 28, rfl, by decide, fun row hrl hrok rl H2 hrl2 e2 h2 => ?_⟩⟩
    obtain ⟨r0, a0, a1, a2⟩ := row_getB (i := 0) hrok (by omega)
    obtain ⟨r1, b0, b1, b2⟩ := row_getB (i := 1) hrok (by omega)
    refine q_asgL (xs := words8.map V.str) (el_lst (ea_cons ev_c (ea_cons ev_c (ea_cons ev_c (ea_cons ev_c (ea_cons ev_c (ea_cons ev_c (ea_cons ev_c (ea_cons ev_c ea_nil)))))))) (by show 8 ≤ 100000; decide)) (fun wl H3 hwl e3 h3 => ?_)
    refine q_asg (v := .int (r1 / 8 % 8)) (ev_op (x := .int (r1 / 8)) (ev_op (x := .int r1) (ev_ixI (K := K) (j := 1) (ev_var rfl) ev_c (e3 _ _ h2) b0) ev_c (rv_I ⟨by decide, by decide⟩)) ev_c (rv_I (by decide))) (fun H4 e4 => ?_)
    obtain ⟨t, ht⟩ : ∃ t : Nat, r1 / 8 % 8 = (t : Int) := ⟨(r1 / 8 % 8).toNat, by omega⟩
    obtain ⟨n, hn⟩ : ∃ n : Nat, 1 + r1 % 8 = (n : Int) := ⟨(1 + r1 % 8).toNat, by omega⟩
    rw [ht]
    have ht8 : t ≤ 8 := by omega
    have hn8 : n ≤ 8 := by omega
    have hn1 : 1 ≤ n := by omega
    have eN : cutV (cutV (words8.map V.str) (some (t : Int)) none ++ cutV (words8.map V.str) none (some (t : Int))) none (some (n : Int)) = (nms t n).map V.str := by
      rw [cut_dropB, cut_takeB, cut_takeB]
      unfold nms
      rw [List.map_take, List.map_append, List.map_drop, List.map_take]
    refine q_asgL (xs := (nms t n).map V.str) (by
      rw [← eN]
      exact el_slN (el_cat (el_sl (K := K) (ev_var rfl) (eo_some (ev_var rfl)) eo_none (sq_of (e4 _ _ h3))) (el_sl (K := K) (ev_var rfl) eo_none (eo_some (ev_var rfl)) (sq_of (e4 _ _ h3))) (by
        rw [cut_dropB, cut_takeB, List.length_drop, List.length_take, List.length_map]
        show 8 - t + min t 8 ≤ 100000
        omega)) eo_none (eo_some (ev_is (ev_op (x := .int 1) (y := .int (r1 % 8)) ev_c (ev_op (x := .int r1) (ev_int1 (K := K) (ev_ixI (j := 1) (ev_var rfl) ev_c ((e3.trans e4) _ _ h2) b0)) ev_c (rv_I (by decide))) rv_I0) (by show V.int (1 + r1 % 8) = _; rw [hn])))) (fun nl H5 hnl e5 h5 => ?_)
    have hlen := nms_len (t := t) hn8
    generalize hns : nms t n = ns at h5 hlen
    have nd : ns.Nodup := hns ▸ nms_nd
    have good : ∀ z ∈ ns, nameS z = true ∧ z.length ≤ 8 := fun z hz => w8 z (nms_in (t := t) (n := n) (by rw [hns]; exact hz))
    have hne : ns ≠ [] := fun z => by
      rw [z] at hlen
      simp at hlen
      omega
    refine fun b dx hb hdx hneb => ⟨b, dx, t0, [], H5, rfl, upd_same, hb, own_ex0 hb hdx, .inl ⟨MB.t0, rfl⟩, fun H6 e6 k6 => ⟨rfl, ?_⟩⟩
    refine q_asgL (xs := []) lst0 (fun dl H7 hdl e7 h7 => ?_)
    have hrl6 := ((e3.trans e4).trans (e5.trans e6)) _ _ h2
    have hnl6 := e6 _ _ h5
    have nrd : rl ≠ dl := ne_of_none hrl6 hdl
    have nnd : nl ≠ dl := ne_of_none hnl6 hdl
    have st0 : LSt CK CD C b dl H7 ns [] [] := ⟨⟨[], k6.ex e7, rfl, trivial, .nil, (fun d hd => nomatch hd), by decide, (fun d hd => nomatch hd)⟩, h7, trivial, (fun v hv => nomatch hv), (fun d hd => nomatch hd)⟩
    refine q_forR1 (n := (n : Int)) (ea_cons (ev_is (ev_lenQ (K := K) (ev_var rfl) (.inl (sq_of (e7 _ _ hnl6)))) (by rw [List.length_map, hlen])) ea_nil) (by omega)
      (fun i σ' H' => ∃ (ds : Ds) (xs : List V) (v7 v8 v9 : Option V), σ' = [some (.ref a), some (.ref rl), some (.ref wl), some (.int (t : Int)), some (.ref nl), some (.ref b), some (.ref dl), v7, v8, v9, none, none, none, none, none] ∧ LSt CK CD C b dl H' ns ds xs ∧ ds.map (·.1) = ns.take i ∧ H' rl = some (.lst (row.map V.int)) ∧ H' nl = some (.lst (ns.map V.str)))
      (fun H8 e8 => ⟨[], [], _, _, _, rfl, st0.ex e8, rfl, (e7.trans e8) _ _ hrl6, (e7.trans e8) _ _ hnl6⟩) (fun i σ' H' hi ⟨ds, xs, v7, v8, v9, hσ, st, hks, hrl', hnl'⟩ => ?_) (fun σ' H' ⟨ds, xs, v7, v8, v9, hσ, st, hks, hrl', hnl'⟩ => ?_)
    · subst hσ
      have hi' : i < ns.length := by omega
      have hz : ns[i]? = some ns[i] := List.getElem?_eq_getElem hi'
      generalize ns[i] = z at hz
      have hzm := List.mem_of_getElem? hz
      obtain ⟨gz, lz⟩ := good z hzm
      have ldi : ds.length = i := by
        have e := congrArg List.length hks
        rw [List.length_map, List.length_take] at e
        omega
      refine ⟨_, rfl, ?_⟩
      refine a_e (v := .int ((2 + 3 * i : Nat) : Int)) (ev_is (ev_op (x := .int 2) (y := .int (3 * (i : Int))) ev_c (ev_op (x := .int 3) (y := .int (i : Int)) ev_c (ev_var rfl) (rv_I (.inl ⟨by decide, by decide⟩))) rv_I0) (by show V.int (2 + 3 * (i : Int)) = V.int ((2 + 3 * i : Nat) : Int); congr 1)) fun H8 e8 => a_var rfl (a_nil ?_)
      refine ⟨rl, nl, 2 + 3 * i, row, ns, rfl, e8 _ _ hrl', hrok, by omega, e8 _ _ hnl', hne, by omega, good, fun tt p dl2 body H9 e9 htt hp hdl2 hd2 okb lenb => ?_⟩
      refine unp2 htt [some (.ref a), some (.ref rl), some (.ref wl), some (.int (t : Int)), some (.ref nl), some (.ref b), some (.ref dl), some (.int (i : Int)), some (.ref p), some (.ref dl2), none, none, none, none, none] rfl ?_
      refine q_mk2 (lst0 H9 (Ex.refl H9) _ fun pl H10 hpl e10 h10 => ⟨_, rfl, fun df dx2 hdf hdx2 hne2 => ⟨df, dx2, pl, p, [], H10, rfl, upd_same, hdf, own_ex0 hdf hdx2, .inl h10, by decide, by decide +kernel, (fun y hy => nomatch hy), fun H11 e11 hdfa => ⟨rfl, ?_⟩⟩⟩)
      have x11 := (e8.trans e9).trans (e10.trans e11)
      refine ⟨_, rfl, ev_ixZ (K := K) (j := i) (ev_var rfl) (ev_var rfl) (x11 _ _ hnl') hz H11 (Ex.refl H11) _ fun H12 e12 => ?_⟩
      have st12 := st.ex (x11.trans e12)
      obtain ⟨kvs, bk12, tab12⟩ := id st12.bk
      obtain ⟨dy, d5, y1, y2⟩ := id bk12
      have hzn : z ∉ ds.map (·.1) := fun hm => by
        rw [hks] at hm
        obtain ⟨j, hj⟩ := List.mem_iff_getElem?.mp hm
        have hji : j < i := by
          have := (List.getElem?_eq_some_iff.mp hj).1
          rw [List.length_take] at this
          omega
        rw [List.getElem?_take, if_pos hji] at hj
        have := (List.getElem?_inj (List.getElem?_eq_some_iff.mp hj).1 nd).mp (hj.trans hz.symm)
        omega
      have tbn := tab12.snoc (d := ([], body)) hzn ⟨df, p, rfl, hdfa.ex e12, hp.ex ((e10.trans e11).trans e12)⟩ ⟨by omega, by show 0 ≤ 100; decide, okb.dep, okb.sh⟩ okb.siz (by omega)
      have lpk : (putK kvs (.inr z) (.ref df)).length = ds.length + 1 := by
        have e := congrArg List.length tbn.keys
        rw [List.length_map, List.length_map, List.length_append] at e
        exact e
      have lkv : kvs.length = ds.length := by
        have e := congrArg List.length tab12.keys
        rw [List.length_map, List.length_map] at e
        exact e
      have ndk : (kvs.map (·.1)).Nodup := by
        rw [tab12.keys, show (ds.map fun d => (Sum.inr d.1 : Key)) = (ds.map (·.1)).map Sum.inr from by rw [List.map_map]; rfl]
        exact List.Pairwise.map _ (fun a b hab hh => hab (Sum.inr.inj hh)) tab12.nd
      refine ⟨b, dy, _, rfl, y1, b, z, .ref df, kvs, rfl, bk12, ndk, by omega, by omega, fun _ _ H13 e13 k13 => ?_, fun _ h12 => absurd h12 (by rw [lpk]; omega), fun hg => absurd gz (by rw [hg]; decide)⟩
      have hd13 := e13.lst bk12 st12.hd
      have lxs : xs.length = ds.length := by
        have := st12.dv.length
        rw [List.length_map] at this
        exact this
      refine s_app (xs := xs) (v := .ref dl2) hd13 (ev_var rfl) (ev_var rfl) (by omega) (fun H14 e14 => ?_)
      have hd14 := e14 _ _ hd13
      have ndd : dl2 ≠ dl := (ne_of_none (e8 _ _ st.hd) hdl2).symm
      have kl : ∀ {c : Addr} {ys : List V}, H12 c = some (.lst ys) → c ≠ dl → (upd H14 dl (.lst (xs ++ [.ref dl2]))) c = some (.lst ys) := fun hc hne => by
        rw [upd_ne hne]
        exact e14 _ _ (e13.lst bk12 hc)
      refine ⟨ds ++ [(z, [], body)], xs ++ [.ref dl2], _, _, _, rfl, ⟨⟨_, ?_, ((tbn.keepC (e13.exC bk12 nKD) (e13.exC bk12 nKC)).ex e14).keepC (.updL hd14) (.updL hd14)⟩, upd_same, ?_, fun v hv => ?_, fun d hd => ?_⟩, ?_, kl ((x11.trans e12) _ _ hrl') nrd, kl ((x11.trans e12) _ _ hnl') nnd⟩
      · obtain ⟨dz, d6, w1, w2⟩ := k13.ex e14
        exact ⟨dz, d6, by rw [upd_ne (fun z => by rw [z, hd14] at w1; cases w1)]; exact w1, by rw [upd_ne (fun z => by rw [z, hd14] at w2; cases w2)]; exact w2⟩
      · rw [List.map_append]
        refine LsA.snoc ?_ ⟨dl2, rfl, kl (((e10.trans e11).trans e12) _ _ hd2) ndd⟩
        have g : ∀ (ys : List V) (ls : List (List Str)), (∀ v ∈ ys, v ≠ .ref dl) → LsA DlAt H12 ys ls → LsA DlAt (upd H14 dl (.lst (xs ++ [.ref dl2]))) ys ls := fun ys => by
          induction ys with
          | nil =>
            intro ls _ h
            cases ls with
            | nil => trivial
            | cons l ls => exact h.elim
          | cons y ys ih =>
            intro ls hn h
            cases ls with
            | nil => exact h.elim
            | cons l ls =>
              obtain ⟨⟨c, hc1, hc2⟩, h2⟩ := h
              exact ⟨⟨c, hc1, kl hc2 (fun z => hn y (List.mem_cons_self ..) (by rw [hc1, z]))⟩, ih ls (fun v hv => hn v (List.mem_cons_of_mem _ hv)) h2⟩
        exact g _ _ st12.ne st12.dv
      · rcases List.mem_append.mp hv with hv | hv
        · exact st12.ne v hv
        · rw [List.mem_singleton.mp hv]
          exact fun z => ndd (V.ref.inj z)
      · rcases List.mem_append.mp hd with hd | hd
        · exact st12.ok d hd
        · rw [List.mem_singleton.mp hd]
          exact ⟨rfl, okb, lenb⟩
      · rw [List.map_append, hks, List.take_add_one, hz]
        rfl
    · subst hσ
      have hkeys : ds.map (·.1) = ns := by
        rw [hks]
        show ns.take ((n : Int)).toNat = ns
        rw [show ((n : Int)).toNat = ns.length from by omega, List.take_length]
      have dok : DsOk ns ds := ⟨hkeys, nd, st.ok⟩
      have ldn : ds.length ≤ 12 := by
        have e := congrArg List.length hkeys
        rw [List.length_map] at e
        omega
      obtain ⟨n0, hn0⟩ : ∃ n0, ns[0]? = some n0 := ⟨_, List.getElem?_eq_getElem (by omega)⟩
      have hn0m := List.mem_of_getElem? hn0
      obtain ⟨gn0, ln0⟩ := good n0 hn0m
      refine ⟨_, rfl, _, rfl, nl, dl, xs, ds, rfl, by rw [hkeys]; exact hnl', st.hd, st.dv, by rw [hkeys]; exact nd, ldn, dok.closed, fun d hd => by have := (st.ok d hd).2.2; omega, fun o ho H8 e8 => ?_⟩
      refine q_asg (v := .int (r0 % 4)) (ev_op (x := .int r0) (ev_int1 (K := K) (ev_ixI (j := 0) (ev_var rfl) ev_c (e8 _ _ hrl') a0)) ev_c (rv_I (by decide))) (fun H9 e9 => ?_)
      have w0 : 0 ≤ r0 % 4 := by omega
      have w4 : r0 % 4 < 4 := by omega
      generalize r0 % 4 = way at w0 w4
      have x9 := e8.trans e9
      have obs : opsOk (opsL way) = true := by
        unfold opsL
        split <;> decide +kernel
      refine q_asgS (Pv := fun v H' => PvAt C H' v (.call n0 (opsL way))) (es_st fun H10 e10 Q10 q10 => a_e (ev_ixZ (j := 0) (ev_var rfl) ev_c ((x9.trans e10) _ _ hnl') hn0) fun H11 e11 => a_l (el_ops K rfl) fun u H12 hu e12 h12 => a_nil ⟨n0, u, opsL way, rfl, by omega, .inl h12, by unfold opsL; split <;> decide, fun oo hoo => ?_, made_s (bCall gn0 obs) fun v H13 e13 hv => q10 v H13 ((e11.trans e12).trans e13) hv⟩) (fun v12 H10 e10 hv12 => ?_)
      · unfold opsL at hoo
        split at hoo
        · rw [List.mem_singleton.mp hoo]
          exact True.intro
        · exact nomatch hoo
      refine q_cut (M := fun σ' H' => ∃ v : V, σ' = [some (.ref a), some (.ref rl), some (.ref wl), some (.int (t : Int)), some (.ref nl), some (.ref b), some (.ref dl), v7, v8, v9, some (.str (o.getD "")), some (.int way), some v, none, none] ∧ Ex H10 H' ∧ PvAt C H' v (startP way n0)) ?_ (fun σ11 H11 ⟨v, hσ11, e11, hv⟩ => ?_)
      · refine s_when (b := decide (V.int way = V.int 3)) (et_test (ev_op (x := .int way) (ev_var rfl) ev_c (rv_eq rfl))) (fun hb3 H11 e11 => ?_) (fun hb3 H11 e11 => ⟨v12, rfl, e11, ?_⟩)
        · have hw : way = 3 := V.int.inj (of_decide_eq_true hb3)
          subst hw
          exact s_asgS (es_off (z := "u") (r := .call n0 []) (fun H12 e12 Q8 q8 => ⟨_, rfl, q8 _ H12 (Ex.refl H12) (hv12.ex (e11.trans e12))⟩) (by decide +kernel) (bOff nu (by simp only [Pr.depth, Ofs.depth]; decide) (by simp only [Pr.size, Ofs.len, Ofs.sum]; decide))) (fun v H12 e12 hv => ⟨v, rfl, e11.trans e12, hv⟩)
        · have h3 : ¬ way = 3 := fun z => by
            rw [z] at hb3
            simp at hb3
          have e : startP way n0 = .call n0 (opsL way) := by
            unfold startP opsL
            by_cases h2 : way = 2
            · rw [if_pos h2, if_pos h2]
            · rw [if_neg h2, if_neg h3, if_neg h2]
          rw [e]
          exact hv12.ex e11
      subst hσ11
      obtain ⟨sa, hsa, hsp⟩ := hv
      subst hsa
      have x11 := (x9.trans e10).trans e11
      have hnl11 := x11 _ _ hnl'
      show tPgE K C CB CK CN CD CW CE CM CP N _ _ _ _
      refine g_mkS (a_s (es_l1 (xs := [.str "c", .int 2, .int 0]) (eu_tup (ea_cons ev_c (ea_cons ev_c (ea_cons ev_c ea_nil))) (by show 3 ≤ 100000; decide))) fun v H12 e12 ⟨p, ta, hv, g1, g2⟩ => ?_)
      subst hv
      refine a_var rfl (a_s (es_net2 (K := K) rfl (hsp.ex e12)) fun v H13 e13 ⟨nn, hv, nq⟩ => ?_)
      subst hv
      refine a_nil fun x dx1 hx hdx1 hne1 => ?_
      have x13 := (x11.trans e12).trans e13
      refine ⟨x, p, b, nn, dx1, [.ref ta], [("c", 2, 0)], ds, [.choice .nil, startP way n0], H13, rfl, upd_same, hx, own_ex0 hx hdx1, e13 _ _ g1, ⟨⟨ta, rfl, e13 _ _ g2⟩, trivial⟩, fun cc hcc => ?_, by show 1 ≤ 1000; decide, st.bk.ex x13, nq, fun pp hpp => ?_, by show 2 ≤ 6; decide, fun o' ho' => ?_⟩
      · rw [List.mem_singleton.mp hcc]
        show ("c" : Str).length ≤ 1000
        decide +kernel
      · rcases List.mem_cons.mp hpp with rfl | hpp
        · exact ⟨by rw [Pr.depth]; decide, True.intro⟩
        · rw [List.mem_singleton.mp hpp]
          unfold startP
          split
          · exact ⟨by simp only [Pr.depth]; decide, by omega, by decide, fun oo hoo => by rw [List.mem_singleton.mp hoo]; exact True.intro⟩
          · split
            · exact ⟨by simp only [Pr.depth, Ofs.depth]; decide, by decide +kernel, True.intro, by decide, ⟨by omega, by decide, fun oo hoo => nomatch hoo⟩, True.intro⟩
            · exact ⟨by simp only [Pr.depth]; decide, by omega, by decide, fun oo hoo => nomatch hoo⟩
      rcases out14 dok hn0m w0 w4 o' ho' with ⟨rfl, rfl⟩ | ⟨rfl, rfl⟩ | ⟨hw2, oe, hoe, rfl⟩
      · refine ⟨(fun z => nomatch z), fun f hf => ?_⟩
        cases hf
        intro d9 H14 e14 hd9 h9
        refine ⟨true, E1.tWW, fun _ y0 hy0 => ?_, (fun z => nomatch z)⟩
        exact s_ret (v := .bl true) (ev_is (ev_andV (a := true) (b := true) (ev_is (ev_op (x := .int 2) (ev_var rfl) ev_c (rv_eq rfl)) rfl) (fun _ => ev_is (ev_op (x := .str n0) (y := .str n0) (ev_xf (ev_var rfl) h9) (ev_ixZ (K := K) (j := 0) (ev_var rfl) ev_c ((x13.trans e14) _ _ hnl') hn0) (rv_eq rfl)) (by rw [decide_eq_true rfl]))) rfl) (fun H15 e15 => q H15)
      · refine ⟨(fun z => nomatch z), fun f hf => ?_⟩
        cases hf
        intro d9 H14 e14 hd9 h9
        refine ⟨false, E1.tNW, (fun z => nomatch z), fun _ => ⟨true, E1.tNN, fun _ y0 hy0 => ?_, (fun z => nomatch z)⟩⟩
        exact s_ret (v := .bl true) (ev_is (ev_andV (a := true) (b := true) (ev_is (ev_op (x := .int 3) (ev_var rfl) ev_c (rv_eq rfl)) rfl) (fun _ => ev_is (ev_op (x := .str "u") (y := .str "u") (ev_xf (ev_var rfl) h9) ev_c (rv_eq rfl)) (by rw [decide_eq_true rfl]))) rfl) (fun H15 e15 => q H15)
      · obtain rfl := endOut_uniq ho hoe
        cases o with
        | none =>
          refine ⟨fun _ H14 e14 pg => ⟨rfl, ?_⟩, fun f hf => nomatch hf⟩
          obtain ⟨dx2, tc, dd, b', n', ys, bvs, p1, p2⟩ := pg
          exact s_ret (v := .bl true) (ev_is (ev_andV (a := true) (b := true) (ev_is (ev_op (x := .int way) (ev_var rfl) ev_c rv_I0) (by rw [decide_eq_true hw2])) (fun _ => ev_is (ev_andV (a := true) (b := true) (ev_is (ev_op (x := .str "") (ev_var rfl) ev_c (rv_eq rfl)) (by rw [decide_eq_true rfl])) (fun _ => ev_is (ev_op (x := .int 2) (ev_fld (ev_var rfl) p1 T.cl T.nM pg_machines) ev_c (rv_eq rfl)) (by rw [decide_eq_true rfl]))) rfl)) rfl) (fun H15 e15 => q H15)
        | some z =>
          refine ⟨(fun z => nomatch z), fun f hf => ?_⟩
          cases hf
          intro d9 H14 e14 hd9 h9
          refine ⟨false, E1.tEW, (fun z => nomatch z), fun _ => ⟨false, E1.tEN, (fun z => nomatch z), fun _ => ⟨true, E1.tEE, fun _ y0 hy0 => ?_, (fun z => nomatch z)⟩⟩⟩
          exact s_ret (v := .bl true) (ev_is (ev_andV (a := true) (b := true) (ev_is (ev_op (x := .int way) (ev_var rfl) ev_c rv_I0) (by rw [decide_eq_true hw2])) (fun _ => ev_is (ev_op (x := .str z) (y := .str z) (ev_xf (ev_var rfl) h9) (ev_var rfl) (rv_eq rfl)) (by rw [decide_eq_true rfl]))) rfl) (fun H15 e15 => q H15)
end
end Fs

set_option Elab.async false
set_option linter.all false
set_option maxRecDepth 100000
set_option maxHeartbeats 8000000
namespace Fs
open PySem PySem.Spec PyProof.Rows L2 Evl FsE FsC FsR FsA FsD FsU FsK StX FsI FsT FsS FsB
theorem exm_own {K : PySem.W.Frag} {S : Addr} (h1 : PySem.W.subIn K (.ref S) (.type "BaseException") = some true) (h2 : PySem.W.isClsIn K S = true) (h3 : PySem.W.typeIn K (.ref S) = some (.type "type")) (h4 : PySem.W.subIn K (.ref S) (.ref S) = some true) : PySem.W.exmOne K (.ref S) (.ref S) = some true := by
  unfold PySem.W.exmOne PySem.W.kitCls
  have h2' : (PySem.W.clsIn K S).isSome = true := h2
  simp only [h1, h2', h3, h4, beq_self_eq_true, Bool.and_self, if_true]
theorem kit_no {K : PySem.W.Frag} {S : Addr} {T : String} (h2 : PySem.W.isClsIn K S = true) (h3 : PySem.W.typeIn K (.ref S) = some (.type "type")) (h4 : PySem.W.subIn K (.type T) (.ref S) = some false) : PySem.W.kitOne K (.type T) (.ref S) = some false := by
  unfold PySem.W.kitOne PySem.W.kitCls
  have h2' : (PySem.W.clsIn K S).isSome = true := h2
  have h0 : (Value.type T == Value.ref S) = false := rfl
  simp only [h0, h2', h3, h4, beq_self_eq_true, Bool.and_self, if_true]
  rfl
theorem kit_two {K : PySem.W.Frag} {C S : Addr} (h0 : (Value.ref C == Value.ref S) = false) (h2 : PySem.W.isClsIn K S = true) (h3 : PySem.W.typeIn K (.ref S) = some (.type "type")) (h4 : PySem.W.subIn K (.ref C) (.ref S) = some false) : PySem.W.kitOne K (.ref C) (.ref S) = some false := by
  unfold PySem.W.kitOne PySem.W.kitCls
  have h2' : (PySem.W.clsIn K S).isSome = true := h2
  simp only [h0, h2', h3, h4, beq_self_eq_true, Bool.and_self, if_true]
  rfl
theorem exm_b {K : PySem.W.Frag} {S D : Addr} {v : Bool} (h1 : PySem.W.subIn K (.ref D) (.type "BaseException") = some true) (h2 : PySem.W.isClsIn K D = true) (h3 : PySem.W.typeIn K (.ref D) = some (.type "type")) (h4 : PySem.W.subIn K (.ref S) (.ref D) = some v) : PySem.W.exmOne K (.ref S) (.ref D) = some v := by
  unfold PySem.W.exmOne PySem.W.kitCls
  have h2' : (PySem.W.clsIn K D).isSome = true := h2
  simp only [h1, h2', h3, h4, beq_self_eq_true, Bool.and_self, if_true]
theorem binds_bk2 {K : PySem.W.Frag} {f t0 : Addr} {fd : FuncData} (F : FunD K "__init__" "Book.__init__" (defArgs (inClass (topS 26) 0)) (defBody (inClass (topS 26) 0)) (defScope (inClass (topS 26) 0)) [.ref t0] [] f fd) : Binds K fd ["self", "given"] [] := by
  obtain ⟨ds, vd, bd⟩ := F.binds1 (ps := ["self", "given"]) 2 1 (by simp) rfl (fun T kV doc pm an cdv ct us its h1 h2 => match us, its, h1, h2 with | [_, _], [_], _, _ => ⟨_, rfl, rfl⟩)
  cases vd
  exact bd
theorem all_mk {P : Program} {w : World} {K : PySem.W.Frag} {h : Heap} {mg : Str → Option Value} {fa : Addr} (X : K.In h) (G : h.Ns mainGlobals mg) (hfa : mg "law" = some (.ref fa))
    {CB : Addr} {nmB qB : Str} {NB cS fB cda cc : Addr} {bsB : List Value} {snB : List Str} {subB : List Value} {abB : Bool} {colB : Option Bool} {ddB : Option Addr} {m0 m1 m2 m3 m5 : Option Value} {ocB kVB dcB pmB ctB ccl clB : Value} {odB anB cdd cld : Option Addr} {slB ccs csl : Array (Option Value)} {vsB : Array Value} {fileB : Str} {tfB : Tok} {zM : Str} {b1 b2 q0 r0 r1 r2 r3 r4 r5 r6 r7 r8 : Pos}
    {C2 N2 : Addr} {nm2 q2 : Str} {bs2 : List Value} {sn2 : List Str} {sub2 : List Value} {ab2 : Bool} {col2 : Option Bool} {dd2 : Option Addr} {m2_0 m2_1 m2_2 m2_3 m2_5 : Option Value}
    {fI2 cda2 cc2 : Addr} {ocB2 kVB2 dcB2 pmB2 ctB2 ccl2 clB2 : Value} {odB2 anB2 cdd2 cld2 : Option Addr} {slB2 ccs2 csl2 : Array (Option Value)} {vsB2 : Array Value} {fileB2 : Str} {tfB2 : Tok} {zM2 : Str} {b2_1 b2_2 q2_0 r2_0 r2_1 r2_2 r2_3 r2_4 r2_5 r2_6 r2_7 r2_8 : Pos}
    {C3 N3 : Addr} {nm3 q3 : Str} {bs3 : List Value} {sn3 : List Str} {sub3 : List Value} {ab3 : Bool} {col3 : Option Bool} {dd3 : Option Addr} {m3_0 m3_1 m3_2 m3_3 m3_5 : Option Value}
    {fI3 cda3 cc3 : Addr} {ocB3 kVB3 dcB3 pmB3 ctB3 ccl3 clB3 : Value} {odB3 anB3 cdd3 cld3 : Option Addr} {slB3 ccs3 csl3 : Array (Option Value)} {vsB3 : Array Value} {fileB3 : Str} {tfB3 : Tok} {zM3 : Str} {b3_1 b3_2 q3_0 r3_0 r3_1 r3_2 r3_3 r3_4 r3_5 r3_6 r3_7 r3_8 : Pos}
    {C4 N4 : Addr} {nm4 q4 : Str} {bs4 : List Value} {sn4 : List Str} {sub4 : List Value} {ab4 : Bool} {col4 : Option Bool} {dd4 : Option Addr} {m4_0 m4_1 m4_2 m4_3 m4_5 : Option Value}
    {fI4 cda4 cc4 : Addr} {ocB4 kVB4 dcB4 pmB4 ctB4 ccl4 clB4 : Value} {odB4 anB4 cdd4 cld4 : Option Addr} {slB4 ccs4 csl4 : Array (Option Value)} {vsB4 : Array Value} {fileB4 : Str} {tfB4 : Tok} {zM4 : Str} {b4_1 b4_2 q4_0 r4_0 r4_1 r4_2 r4_3 r4_4 r4_5 r4_6 r4_7 r4_8 : Pos}
    {C5 N5 : Addr} {nm5 q5 : Str} {bs5 : List Value} {sn5 : List Str} {sub5 : List Value} {ab5 : Bool} {col5 : Option Bool} {dd5 : Option Addr} {m5_0 m5_1 m5_2 m5_3 m5_5 : Option Value}
    {fI5 cda5 cc5 : Addr} {ocB5 kVB5 dcB5 pmB5 ctB5 ccl5 clB5 : Value} {odB5 anB5 cdd5 cld5 : Option Addr} {slB5 ccs5 csl5 : Array (Option Value)} {vsB5 : Array Value} {fileB5 : Str} {tfB5 : Tok} {zM5 : Str} {b5_1 b5_2 q5_0 r5_0 r5_1 r5_2 r5_3 r5_4 r5_5 r5_6 r5_7 r5_8 : Pos}
    {zL : Str} {tL : Tok}
    {zD : Str} {tD : Tok}
    {iN : Int} {tN : Tok}
    {iT : Int} {tT : Tok}
    {iM : Int} {tM : Tok}
    {iDe : Int} {tDe : Tok}
    {iSi : Int} {tSi : Tok}
    {aR : Addr} {odR : Option Addr} {slR : Array (Option Value)} {itsR : Array Value} {nR : Nat}
    {C : Addr}
    {finit : Addr} {odinit aninit : Option Addr} {slinit : Array (Option Value)} {ocinit kVinit dcinit pminit cdinit ctinit : Value}
    {fisname : Addr} {odisname anisname : Option Addr} {slisname : Array (Option Value)} {ocisname kVisname dcisname pmisname cdisname ctisname : Value}
    {fisint : Addr} {odisint anisint : Option Addr} {slisint : Array (Option Value)} {ocisint kVisint dcisint pmisint cdisint ctisint : Value}
    {fisshort : Addr} {odisshort anisshort : Option Addr} {slisshort : Array (Option Value)} {ocisshort kVisshort dcisshort pmisshort cdisshort ctisshort : Value}
    {fisop : Addr} {odisop anisop : Option Addr} {slisop : Array (Option Value)} {ocisop kVisop dcisop pmisop cdisop ctisop : Value}
    {fdemand : Addr} {oddemand andemand : Option Addr} {sldemand : Array (Option Value)} {ocdemand kVdemand dcdemand pmdemand cddemand ctdemand : Value}
    {finner : Addr} {odinner aninner : Option Addr} {slinner : Array (Option Value)} {ocinner kVinner dcinner pminner cdinner ctinner : Value}
    {fsize : Addr} {odsize ansize : Option Addr} {slsize : Array (Option Value)} {ocsize kVsize dcsize pmsize cdsize ctsize : Value}
    {fdepth : Addr} {oddepth andepth : Option Addr} {sldepth : Array (Option Value)} {ocdepth kVdepth dcdepth pmdepth cddepth ctdepth : Value}
    {iOp : Int} {tOp : Tok}
    {CK : Addr}
    {CD : Addr}
    {fbin : Addr} {odbin anbin : Option Addr} {slbin : Array (Option Value)} {ocbin kVbin dcbin pmbin cdbin ctbin : Value} {aTD aT0 : Addr} {odTD : Option Addr} {nTD nT0 : Nat} {slTD slT0 : Array (Option Value)} {clTD : Value}
    {fbset : Addr} {odbset anbset : Option Addr} {slbset : Array (Option Value)} {ocbset kVbset dcbset pmbset cdbset ctbset : Value}
    {fbget : Addr} {odbget anbget : Option Addr} {slbget : Array (Option Value)} {ocbget kVbget dcbget pmbget cdbget ctbget : Value}
    {fbhas : Addr} {odbhas anbhas : Option Addr} {slbhas : Array (Option Value)} {ocbhas kVbhas dcbhas pmbhas cdbhas ctbhas : Value}
    {fblen : Addr} {odblen anblen : Option Addr} {slblen : Array (Option Value)} {ocblen kVblen dcblen pmblen cdblen ctblen : Value}
    {fbnames : Addr} {odbnames anbnames : Option Addr} {slbnames : Array (Option Value)} {ocbnames kVbnames dcbnames pmbnames cdbnames ctbnames : Value}
    {fbit : Addr} {odbit anbit : Option Addr} {slbit : Array (Option Value)} {ocbit kVbit dcbit pmbit cdbit ctbit : Value}
    {fbor : Addr} {odbor anbor : Option Addr} {slbor : Array (Option Value)} {ocbor kVbor dcbor pmbor cdbor ctbor : Value}
    {fdin : Addr} {oddin andin : Option Addr} {sldin : Array (Option Value)} {ocdin kVdin dcdin pmdin cddin ctdin : Value}
    {iMd : Int} {tMd : Tok}
    {iMp : Int} {tMp : Tok}
    {N : Addr}
    {fnin : Addr} {odnin annin : Option Addr} {slnin : Array (Option Value)} {ocnin kVnin dcnin pmnin cdnin ctnin : Value}
    {fnlen : Addr} {odnlen annlen : Option Addr} {slnlen : Array (Option Value)} {ocnlen kVnlen dcnlen pmnlen cdnlen ctnlen : Value}
    {fnIt : Addr} {odnIt annIt : Option Addr} {slnIt : Array (Option Value)} {ocnIt kVnIt dcnIt pmnIt cdnIt ctnIt : Value}
    {CP : Addr}
    {fpin : Addr} {odpin anpin : Option Addr} {slpin : Array (Option Value)} {ocpin kVpin dcpin pmpin cdpin ctpin : Value}
    {fpdec : Addr} {odpdec anpdec : Option Addr} {slpdec : Array (Option Value)} {ocpdec kVpdec dcpdec pmpdec cdpdec ctpdec : Value}
    {iMm : Int} {tMm : Tok}
    {iMc : Int} {tMc : Tok}
    {farenames : Addr} {odarenames anarenames : Option Addr} {slarenames : Array (Option Value)} {ocarenames kVarenames dcarenames pmarenames cdarenames ctarenames : Value}
    {fisseats : Addr} {odisseats anisseats : Option Addr} {slisseats : Array (Option Value)} {ocisseats kVisseats dcisseats pmisseats cdisseats ctisseats : Value}
    {flim : Addr} {odlim anlim : Option Addr} {sllim : Array (Option Value)} {oclim kVlim dclim pmlim cdlim ctlim : Value}
    {funi : Addr} {oduni anuni : Option Addr} {sluni : Array (Option Value)} {ocuni kVuni dcuni pmuni cduni ctuni : Value}
    {fops : Addr} {odops anops : Option Addr} {slops : Array (Option Value)} {ocops kVops dcops pmops cdops ctops : Value}
    {fchkC : Addr} {odchkC anchkC : Option Addr} {slchkC : Array (Option Value)} {occhkC kVchkC dcchkC pmchkC cdchkC ctchkC : Value}
    {fchkP : Addr} {odchkP anchkP : Option Addr} {slchkP : Array (Option Value)} {occhkP kVchkP dcchkP pmchkP cdchkP ctchkP : Value}
    {fchkN : Addr} {odchkN anchkN : Option Addr} {slchkN : Array (Option Value)} {occhkN kVchkN dcchkN pmchkN cdchkN ctchkN : Value}
    {fdc : Addr} {oddc andc : Option Addr} {sldc : Array (Option Value)} {ocdc kVdc dcdc pmdc cddc ctdc : Value}
    {fnb : Addr} {odnb annb : Option Addr} {slnb : Array (Option Value)} {ocnb kVnb dcnb pmnb cdnb ctnb : Value}
    {fends : Addr} {odends anends : Option Addr} {slends : Array (Option Value)} {ocends kVends dcends pmends cdends ctends : Value}
    {fchs : Addr} {odchs anchs : Option Addr} {slchs : Array (Option Value)} {occhs kVchs dcchs pmchs cdchs ctchs : Value}
    {fnum : Addr} {odnum annum : Option Addr} {slnum : Array (Option Value)} {ocnum kVnum dcnum pmnum cdnum ctnum : Value}
    {pstop : Addr} {reststop : List Value}
    {fststop : Addr} {odststop anststop : Option Addr} {slststop : Array (Option Value)} {ocststop kVststop dcststop pmststop cdststop ctststop : Value}
    {poffer : Addr} {restoffer : List Value}
    {fstoffer : Addr} {odstoffer anstoffer : Option Addr} {slstoffer : Array (Option Value)} {ocstoffer kVstoffer dcstoffer pmstoffer cdstoffer ctstoffer : Value}
    {pnew : Addr} {restnew : List Value}
    {fstnew : Addr} {odstnew anstnew : Option Addr} {slstnew : Array (Option Value)} {ocstnew kVstnew dcstnew pmstnew cdstnew ctstnew : Value}
    {pwhen : Addr} {restwhen : List Value}
    {fstwhen : Addr} {odstwhen anstwhen : Option Addr} {slstwhen : Array (Option Value)} {ocstwhen kVstwhen dcstwhen pmstwhen cdstwhen ctstwhen : Value}
    {pcall : Addr} {restcall : List Value}
    {fstcall : Addr} {odstcall anstcall : Option Addr} {slstcall : Array (Option Value)} {ocstcall kVstcall dcstcall pmstcall cdstcall ctstcall : Value}
    {fcellat : Addr} {odcellat ancellat : Option Addr} {slcellat : Array (Option Value)} {occellat kVcellat dccellat pmcellat cdcellat ctcellat : Value}
    {fmixed : Addr} {odmixed anmixed : Option Addr} {slmixed : Array (Option Value)} {ocmixed kVmixed dcmixed pmmixed cdmixed ctmixed : Value}
    {frow : Addr} {odrow anrow : Option Addr} {slrow : Array (Option Value)} {ocrow kVrow dcrow pmrow cdrow ctrow : Value}
    {fbody : Addr} {odbody anbody : Option Addr} {slbody : Array (Option Value)} {ocbody kVbody dcbody pmbody cdbody ctbody : Value}
    {fleast : Addr} {odleast anleast : Option Addr} {slleast : Array (Option Value)} {ocleast kVleast dcleast pmleast cdleast ctleast : Value}
    {flaw : Addr} {odlaw anlaw : Option Addr} {sllaw : Array (Option Value)} {oclaw kVlaw dclaw pmlaw cdlaw ctlaw : Value}
    (aB : PySem.W.nsIn K mainGlobals "BadTerm" = some (some (.ref CB)))
    (xB : K.lookup CB = some (excClassObj nmB qB CB NB bsB [.ref cS, .type "ValueError", .type "Exception", .type "BaseException", .type "object"] true snB subB abB colB ddB m0 m1 m2 m3 m5 "ValueError.__new__"))
    (eiB : PySem.W.excInitIn K CB [.type "ValueError", .type "Exception", .type "BaseException", .type "object"] "ValueError.__new__" = true)
    (saB : PySem.W.findIn K (.ref CB) "__setattr__" = some (some (.builtin "object.__setattr__")))
    (noB : PySem.W.findIn K (.ref CB) "field" = some none)
    (iB : PySem.W.findIn K (.ref CB) "__init__" = some (some (.ref fB)))
    (tB : PySem.W.typeIn K (.ref fB) = some (.type "function"))
    (kB : PySem.W.keepIn K (.ref CB) = true)
    (exB : PySem.W.subIn K (.ref CB) (.type "BaseException") = some true)
    (veB : PySem.W.subIn K (.ref CB) (.type "ValueError") = some true)
    (tyB : PySem.W.typeIn K (.ref CB) = some (.type "type"))
    (mroB : PySem.W.mroIn K CB (.ref CB) = some true)
    (spB : PySem.W.ks_superIn K CB CB "__init__" = some (some (.builtin "ValueError.__init__")))
    (opq : PySem.W.nsIn K cStatics "thirdparty.any" = some none)
    (lB : K.lookup fB = some ⟨ocB, odB, .func (PySem.W.ksFn "__init__" "BadTerm.__init__" (FsB.eA b1 b2) (FsB.eB (FsB.eM zM q0) r0 r1 r2 r3 r4 r5 r6 r7 r8) FsB.eS .none kVB dcB pmB anB (.ref cda) ctB cc), slB⟩)
    (cB : PySem.W.codeIn K (.ref cda) "BadTerm.__init__" = true)
    (oB : K.lookup cda = some ⟨ccl, cdd, .fields vsB, ccs⟩)
    (vB : vsB[2]? = some (.str fileB tfB))
    (fB1 : ((P.main.file : Str) == fileB) = true)
    (ceB : K.lookup cc = some ⟨clB, cld, .cell (some (.ref CB)), csl⟩)
    (lnB : (r2.endLine == r3.line) = true)
    (zMB : zM.length ≤ 1000)
    (topB : (P.main.scope.names.lookup ("super" : Str)).isSome = false)
    (gaB : PySem.W.findIn K (.ref CB) "__getattribute__" = some (some (.builtin "BaseException.__getattribute__")))
    (ggB : PySem.W.findIn K (.ref CB) "__getattr__" = some none)
    (hdB : PySem.W.hasDictIn K CB = true)
    (icB : PySem.W.isClsIn K CB = true)
    (sbB : PySem.W.subIn K (.ref CB) (.ref CB) = some true)
    (z_super : PySem.W.nsIn K mainGlobals "super" = some (none))
    (gn2 : PySem.W.nsIn K mainGlobals "NoName" = some (some (.ref C2)))
    (x2 : K.lookup C2 = some (excClassObj nm2 q2 C2 N2 bs2 [.ref cS, .type "ValueError", .type "Exception", .type "BaseException", .type "object"] true sn2 sub2 ab2 col2 dd2 m2_0 m2_1 m2_2 m2_3 m2_5 "ValueError.__new__"))
    (ga2 : PySem.W.findIn K (.ref C2) "__getattribute__" = some (some (.builtin "BaseException.__getattribute__")))
    (gg2 : PySem.W.findIn K (.ref C2) "__getattr__" = some none)
    (sa2 : PySem.W.findIn K (.ref C2) "__setattr__" = some (some (.builtin "object.__setattr__")))
    (no2 : PySem.W.findIn K (.ref C2) "name" = some none)
    (iB2 : PySem.W.findIn K (.ref C2) "__init__" = some (some (.ref fI2)))
    (ex2 : PySem.W.subIn K (.ref C2) (.type "BaseException") = some true)
    (ve2 : PySem.W.subIn K (.ref C2) (.type "ValueError") = some true)
    (hd2 : PySem.W.hasDictIn K C2 = true)
    (ty2 : PySem.W.typeIn K (.ref C2) = some (.type "type"))
    (kp2 : PySem.W.keepIn K (.ref C2) = true)
    (ic2 : PySem.W.isClsIn K C2 = true)
    (sb2 : PySem.W.subIn K (.ref C2) (.ref C2) = some true)
    (ei2 : PySem.W.excInitIn K C2 [.type "ValueError", .type "Exception", .type "BaseException", .type "object"] "ValueError.__new__" = true)
    (tB2 : PySem.W.typeIn K (.ref fI2) = some (.type "function"))
    (mr2 : PySem.W.mroIn K C2 (.ref C2) = some true)
    (sp2 : PySem.W.ks_superIn K C2 C2 "__init__" = some (some (.builtin "ValueError.__init__")))
    (lB2 : K.lookup fI2 = some ⟨ocB2, odB2, .func (PySem.W.ksFn "__init__" "NoName.__init__" (FsBname.eA b2_1 b2_2) (FsBname.eB (FsBname.eM zM2 q2_0) r2_0 r2_1 r2_2 r2_3 r2_4 r2_5 r2_6 r2_7 r2_8) FsBname.eS .none kVB2 dcB2 pmB2 anB2 (.ref cda2) ctB2 cc2), slB2⟩)
    (cB2 : PySem.W.codeIn K (.ref cda2) "NoName.__init__" = true)
    (oB2 : K.lookup cda2 = some ⟨ccl2, cdd2, .fields vsB2, ccs2⟩)
    (vB2 : vsB2[2]? = some (.str fileB2 tfB2))
    (fB2 : ((P.main.file : Str) == fileB2) = true)
    (ce2 : K.lookup cc2 = some ⟨clB2, cld2, .cell (some (.ref C2)), csl2⟩)
    (ln2 : (r2_2.endLine == r2_3.line) = true)
    (zM2l : zM2.length ≤ 1000)
    (gn3 : PySem.W.nsIn K mainGlobals "WrongCount" = some (some (.ref C3)))
    (x3 : K.lookup C3 = some (excClassObj nm3 q3 C3 N3 bs3 [.ref cS, .type "ValueError", .type "Exception", .type "BaseException", .type "object"] true sn3 sub3 ab3 col3 dd3 m3_0 m3_1 m3_2 m3_3 m3_5 "ValueError.__new__"))
    (ga3 : PySem.W.findIn K (.ref C3) "__getattribute__" = some (some (.builtin "BaseException.__getattribute__")))
    (gg3 : PySem.W.findIn K (.ref C3) "__getattr__" = some none)
    (sa3 : PySem.W.findIn K (.ref C3) "__setattr__" = some (some (.builtin "object.__setattr__")))
    (no3 : PySem.W.findIn K (.ref C3) "name" = some none)
    (iB3 : PySem.W.findIn K (.ref C3) "__init__" = some (some (.ref fI3)))
    (ex3 : PySem.W.subIn K (.ref C3) (.type "BaseException") = some true)
    (ve3 : PySem.W.subIn K (.ref C3) (.type "ValueError") = some true)
    (hd3 : PySem.W.hasDictIn K C3 = true)
    (ty3 : PySem.W.typeIn K (.ref C3) = some (.type "type"))
    (kp3 : PySem.W.keepIn K (.ref C3) = true)
    (ic3 : PySem.W.isClsIn K C3 = true)
    (sb3 : PySem.W.subIn K (.ref C3) (.ref C3) = some true)
    (ei3 : PySem.W.excInitIn K C3 [.type "ValueError", .type "Exception", .type "BaseException", .type "object"] "ValueError.__new__" = true)
    (tB3 : PySem.W.typeIn K (.ref fI3) = some (.type "function"))
    (mr3 : PySem.W.mroIn K C3 (.ref C3) = some true)
    (sp3 : PySem.W.ks_superIn K C3 C3 "__init__" = some (some (.builtin "ValueError.__init__")))
    (lB3 : K.lookup fI3 = some ⟨ocB3, odB3, .func (PySem.W.ksFn "__init__" "WrongCount.__init__" (FsBname.eA b3_1 b3_2) (FsBname.eB (FsBname.eM zM3 q3_0) r3_0 r3_1 r3_2 r3_3 r3_4 r3_5 r3_6 r3_7 r3_8) FsBname.eS .none kVB3 dcB3 pmB3 anB3 (.ref cda3) ctB3 cc3), slB3⟩)
    (cB3 : PySem.W.codeIn K (.ref cda3) "WrongCount.__init__" = true)
    (oB3 : K.lookup cda3 = some ⟨ccl3, cdd3, .fields vsB3, ccs3⟩)
    (vB3 : vsB3[2]? = some (.str fileB3 tfB3))
    (fB3 : ((P.main.file : Str) == fileB3) = true)
    (ce3 : K.lookup cc3 = some ⟨clB3, cld3, .cell (some (.ref C3)), csl3⟩)
    (ln3 : (r3_2.endLine == r3_3.line) = true)
    (zM3l : zM3.length ≤ 1000)
    (gn4 : PySem.W.nsIn K mainGlobals "Endless" = some (some (.ref C4)))
    (x4 : K.lookup C4 = some (excClassObj nm4 q4 C4 N4 bs4 [.ref cS, .type "ValueError", .type "Exception", .type "BaseException", .type "object"] true sn4 sub4 ab4 col4 dd4 m4_0 m4_1 m4_2 m4_3 m4_5 "ValueError.__new__"))
    (ga4 : PySem.W.findIn K (.ref C4) "__getattribute__" = some (some (.builtin "BaseException.__getattribute__")))
    (gg4 : PySem.W.findIn K (.ref C4) "__getattr__" = some none)
    (sa4 : PySem.W.findIn K (.ref C4) "__setattr__" = some (some (.builtin "object.__setattr__")))
    (no4 : PySem.W.findIn K (.ref C4) "name" = some none)
    (iB4 : PySem.W.findIn K (.ref C4) "__init__" = some (some (.ref fI4)))
    (ex4 : PySem.W.subIn K (.ref C4) (.type "BaseException") = some true)
    (ve4 : PySem.W.subIn K (.ref C4) (.type "ValueError") = some true)
    (hd4 : PySem.W.hasDictIn K C4 = true)
    (ty4 : PySem.W.typeIn K (.ref C4) = some (.type "type"))
    (kp4 : PySem.W.keepIn K (.ref C4) = true)
    (ic4 : PySem.W.isClsIn K C4 = true)
    (sb4 : PySem.W.subIn K (.ref C4) (.ref C4) = some true)
    (ei4 : PySem.W.excInitIn K C4 [.type "ValueError", .type "Exception", .type "BaseException", .type "object"] "ValueError.__new__" = true)
    (tB4 : PySem.W.typeIn K (.ref fI4) = some (.type "function"))
    (mr4 : PySem.W.mroIn K C4 (.ref C4) = some true)
    (sp4 : PySem.W.ks_superIn K C4 C4 "__init__" = some (some (.builtin "ValueError.__init__")))
    (lB4 : K.lookup fI4 = some ⟨ocB4, odB4, .func (PySem.W.ksFn "__init__" "Endless.__init__" (FsBname.eA b4_1 b4_2) (FsBname.eB (FsBname.eM zM4 q4_0) r4_0 r4_1 r4_2 r4_3 r4_4 r4_5 r4_6 r4_7 r4_8) FsBname.eS .none kVB4 dcB4 pmB4 anB4 (.ref cda4) ctB4 cc4), slB4⟩)
    (cB4 : PySem.W.codeIn K (.ref cda4) "Endless.__init__" = true)
    (oB4 : K.lookup cda4 = some ⟨ccl4, cdd4, .fields vsB4, ccs4⟩)
    (vB4 : vsB4[2]? = some (.str fileB4 tfB4))
    (fB4 : ((P.main.file : Str) == fileB4) = true)
    (ce4 : K.lookup cc4 = some ⟨clB4, cld4, .cell (some (.ref C4)), csl4⟩)
    (ln4 : (r4_2.endLine == r4_3.line) = true)
    (zM4l : zM4.length ≤ 1000)
    (gn5 : PySem.W.nsIn K mainGlobals "NoMachine" = some (some (.ref C5)))
    (x5 : K.lookup C5 = some (excClassObj nm5 q5 C5 N5 bs5 [.ref cS, .type "ValueError", .type "Exception", .type "BaseException", .type "object"] true sn5 sub5 ab5 col5 dd5 m5_0 m5_1 m5_2 m5_3 m5_5 "ValueError.__new__"))
    (ga5 : PySem.W.findIn K (.ref C5) "__getattribute__" = some (some (.builtin "BaseException.__getattribute__")))
    (gg5 : PySem.W.findIn K (.ref C5) "__getattr__" = some none)
    (sa5 : PySem.W.findIn K (.ref C5) "__setattr__" = some (some (.builtin "object.__setattr__")))
    (no5 : PySem.W.findIn K (.ref C5) "machine" = some none)
    (iB5 : PySem.W.findIn K (.ref C5) "__init__" = some (some (.ref fI5)))
    (ex5 : PySem.W.subIn K (.ref C5) (.type "BaseException") = some true)
    (ve5 : PySem.W.subIn K (.ref C5) (.type "ValueError") = some true)
    (hd5 : PySem.W.hasDictIn K C5 = true)
    (ty5 : PySem.W.typeIn K (.ref C5) = some (.type "type"))
    (kp5 : PySem.W.keepIn K (.ref C5) = true)
    (ic5 : PySem.W.isClsIn K C5 = true)
    (sb5 : PySem.W.subIn K (.ref C5) (.ref C5) = some true)
    (ei5 : PySem.W.excInitIn K C5 [.type "ValueError", .type "Exception", .type "BaseException", .type "object"] "ValueError.__new__" = true)
    (tB5 : PySem.W.typeIn K (.ref fI5) = some (.type "function"))
    (mr5 : PySem.W.mroIn K C5 (.ref C5) = some true)
    (sp5 : PySem.W.ks_superIn K C5 C5 "__init__" = some (some (.builtin "ValueError.__init__")))
    (lB5 : K.lookup fI5 = some ⟨ocB5, odB5, .func (PySem.W.ksFn "__init__" "NoMachine.__init__" (FsBmachine.eA b5_1 b5_2) (FsBmachine.eB (FsBmachine.eM zM5 q5_0) r5_0 r5_1 r5_2 r5_3 r5_4 r5_5 r5_6 r5_7 r5_8) FsBmachine.eS .none kVB5 dcB5 pmB5 anB5 (.ref cda5) ctB5 cc5), slB5⟩)
    (cB5 : PySem.W.codeIn K (.ref cda5) "NoMachine.__init__" = true)
    (oB5 : K.lookup cda5 = some ⟨ccl5, cdd5, .fields vsB5, ccs5⟩)
    (vB5 : vsB5[2]? = some (.str fileB5 tfB5))
    (fB5 : ((P.main.file : Str) == fileB5) = true)
    (ce5 : K.lookup cc5 = some ⟨clB5, cld5, .cell (some (.ref C5)), csl5⟩)
    (ln5 : (r5_2.endLine == r5_3.line) = true)
    (zM5l : zM5.length ≤ 1000)
    (gL : PySem.W.nsIn K mainGlobals "LETTERS" = some (some (.str zL tL)))
    (hL : zL = lettersS)
    (gD : PySem.W.nsIn K mainGlobals "DIGITS" = some (some (.str zD tD)))
    (hD : zD = digitsS)
    (gN : PySem.W.nsIn K mainGlobals "NAME_LENGTH" = some (some (.int iN tN)))
    (hN : iN = 8)
    (gT : PySem.W.nsIn K mainGlobals "TOO_LONG" = some (some (.int iT tT)))
    (hT : iT = 10 ^ 30)
    (gM : PySem.W.nsIn K mainGlobals "MOST_SEATS" = some (some (.int iM tM)))
    (hM : iM = 4)
    (gDe : PySem.W.nsIn K mainGlobals "MOST_DEPTH" = some (some (.int iDe tDe)))
    (hDe : iDe = 20)
    (gSi : PySem.W.nsIn K mainGlobals "MOST_SIZE" = some (some (.int iSi tSi)))
    (hSi : iSi = 400)
    (gR : PySem.W.nsIn K mainGlobals "RESERVED" = some (some (.ref aR)))
    (lR : K.lookup aR = some ⟨.type "tuple", odR, .seq itsR nR, slR⟩)
    (sR : itsR.size ≤ 1000)
    (hR : Vals reservedV itsR.toList)
    (z_isinstance : PySem.W.nsIn K mainGlobals "isinstance" = some (none))
    (z_str : PySem.W.nsIn K mainGlobals "str" = some (none))
    (z_int : PySem.W.nsIn K mainGlobals "int" = some (none))
    (z_bool : PySem.W.nsIn K mainGlobals "bool" = some (none))
    (z_len : PySem.W.nsIn K mainGlobals "len" = some (none))
    (z_all : PySem.W.nsIn K mainGlobals "all" = some (none))
    (aC : PySem.W.nsIn K mainGlobals "Process" = some (some (.ref C)))
    (pg : PySem.W.plainGet K C Str.empty = true)
    (hd : PySem.W.hasDictIn K C = true)
    (po : PySem.W.plainOver K C = true)
    (sa : PySem.W.findIn K (.ref C) "__setattr__" = some (some (.builtin "object.__setattr__")))
    (n_kind : PySem.W.findIn K (.ref C) "kind" = some none)
    (n_parts : PySem.W.findIn K (.ref C) "parts" = some none)
    (n_depth : PySem.W.findIn K (.ref C) "depth" = some none)
    (n_size : PySem.W.findIn K (.ref C) "size" = some none)
    (mk : PySem.W.makesIn K C = true)
    (kc : PySem.W.keepIn K (.ref C) = true)
    (ha : PySem.W.findIn K (.ref C) "__class__" = some (some (.builtin "object.__class__")))
    (hn : PySem.W.specialIn K (.builtin "object.__class__") "__get__" = some (some (.builtin "getset_descriptor.__get__")))
    (ht : PySem.W.takesIn K (.builtin "object.__class__") = some true)
    (hm : PySem.W.mroIn K C (.type "object") = some true)
    (ic : PySem.W.isClsIn K C = true)
    (ty : PySem.W.typeIn K (.ref C) = some (.type "type"))
    (no_str : PySem.W.subIn K (.type "str") (.ref C) = some false)
    (no_int : PySem.W.subIn K (.type "int") (.ref C) = some false)
    (no_tuple : PySem.W.subIn K (.type "tuple") (.ref C) = some false)
    (z_sum : PySem.W.nsIn K mainGlobals "sum" = some (none))
    (z_max : PySem.W.nsIn K mainGlobals "max" = some (none))
    (z_tuple : PySem.W.nsIn K mainGlobals "tuple" = some (none))
    (minit : PySem.W.findIn K (.ref C) "__init__" = some (some (.ref finit)))
    (iinit : PySem.W.isFn K (.ref finit) = true)
    (linit : K.lookup finit = some ⟨ocinit, odinit, .func (PySem.W.fnOf "__init__" "Process.__init__" (defArgs (inClass (topS 39) 0)) (defBody (inClass (topS 39) 0)) (defScope (inClass (topS 39) 0)) .none kVinit dcinit pminit aninit cdinit ctinit), slinit⟩)
    (cinit : PySem.W.codeIn K cdinit "Process.__init__" = true)
    (kinit : PySem.W.keepIn K (.ref finit) = true)
    (aisname : PySem.W.nsIn K mainGlobals "is_name" = some (some (.ref fisname)))
    (lisname : K.lookup fisname = some ⟨ocisname, odisname, .func (PySem.W.fnOf "is_name" "is_name" (defArgs (topS 8)) (defBody (topS 8)) (defScope (topS 8)) .none kVisname dcisname pmisname anisname cdisname ctisname), slisname⟩)
    (cisname : PySem.W.codeIn K cdisname "is_name" = true)
    (kisname : PySem.W.keepIn K (.ref fisname) = true)
    (aisint : PySem.W.nsIn K mainGlobals "is_int" = some (some (.ref fisint)))
    (lisint : K.lookup fisint = some ⟨ocisint, odisint, .func (PySem.W.fnOf "is_int" "is_int" (defArgs (topS 10)) (defBody (topS 10)) (defScope (topS 10)) .none kVisint dcisint pmisint anisint cdisint ctisint), slisint⟩)
    (cisint : PySem.W.codeIn K cdisint "is_int" = true)
    (kisint : PySem.W.keepIn K (.ref fisint) = true)
    (aisshort : PySem.W.nsIn K mainGlobals "is_short" = some (some (.ref fisshort)))
    (lisshort : K.lookup fisshort = some ⟨ocisshort, odisshort, .func (PySem.W.fnOf "is_short" "is_short" (defArgs (topS 11)) (defBody (topS 11)) (defScope (topS 11)) .none kVisshort dcisshort pmisshort anisshort cdisshort ctisshort), slisshort⟩)
    (cisshort : PySem.W.codeIn K cdisshort "is_short" = true)
    (kisshort : PySem.W.keepIn K (.ref fisshort) = true)
    (aisop : PySem.W.nsIn K mainGlobals "is_operand" = some (some (.ref fisop)))
    (lisop : K.lookup fisop = some ⟨ocisop, odisop, .func (PySem.W.fnOf "is_operand" "is_operand" (defArgs (topS 12)) (defBody (topS 12)) (defScope (topS 12)) .none kVisop dcisop pmisop anisop cdisop ctisop), slisop⟩)
    (cisop : PySem.W.codeIn K cdisop "is_operand" = true)
    (kisop : PySem.W.keepIn K (.ref fisop) = true)
    (ademand : PySem.W.nsIn K mainGlobals "demand" = some (some (.ref fdemand)))
    (ldemand : K.lookup fdemand = some ⟨ocdemand, oddemand, .func (PySem.W.fnOf "demand" "demand" (defArgs (topS 35)) (defBody (topS 35)) (defScope (topS 35)) .none kVdemand dcdemand pmdemand andemand cddemand ctdemand), sldemand⟩)
    (cdemand : PySem.W.codeIn K cddemand "demand" = true)
    (kdemand : PySem.W.keepIn K (.ref fdemand) = true)
    (ainner : PySem.W.nsIn K mainGlobals "inner_processes" = some (some (.ref finner)))
    (linner : K.lookup finner = some ⟨ocinner, odinner, .func (PySem.W.fnOf "inner_processes" "inner_processes" (defArgs (topS 36)) (defBody (topS 36)) (defScope (topS 36)) .none kVinner dcinner pminner aninner cdinner ctinner), slinner⟩)
    (cinner : PySem.W.codeIn K cdinner "inner_processes" = true)
    (kinner : PySem.W.keepIn K (.ref finner) = true)
    (asize : PySem.W.nsIn K mainGlobals "size_of" = some (some (.ref fsize)))
    (lsize : K.lookup fsize = some ⟨ocsize, odsize, .func (PySem.W.fnOf "size_of" "size_of" (defArgs (topS 37)) (defBody (topS 37)) (defScope (topS 37)) .none kVsize dcsize pmsize ansize cdsize ctsize), slsize⟩)
    (csize : PySem.W.codeIn K cdsize "size_of" = true)
    (ksize : PySem.W.keepIn K (.ref fsize) = true)
    (adepth : PySem.W.nsIn K mainGlobals "depth_of" = some (some (.ref fdepth)))
    (ldepth : K.lookup fdepth = some ⟨ocdepth, oddepth, .func (PySem.W.fnOf "depth_of" "depth_of" (defArgs (topS 38)) (defBody (topS 38)) (defScope (topS 38)) .none kVdepth dcdepth pmdepth andepth cddepth ctdepth), sldepth⟩)
    (cdepth : PySem.W.codeIn K cddepth "depth_of" = true)
    (kdepth : PySem.W.keepIn K (.ref fdepth) = true)
    (gOp : PySem.W.nsIn K mainGlobals "MOST_OPERANDS" = some (some (.int iOp tOp)))
    (hOp : iOp = 4)
    (aCK : PySem.W.nsIn K mainGlobals "Book" = some (some (.ref CK)))
    (pgK : PySem.W.plainGet K CK Str.empty = true)
    (hdK : PySem.W.hasDictIn K CK = true)
    (poK : PySem.W.plainOver K CK = true)
    (saK : PySem.W.findIn K (.ref CK) "__setattr__" = some (some (.builtin "object.__setattr__")))
    (nK_by_name : PySem.W.findIn K (.ref CK) "by_name" = some none)
    (mkK : PySem.W.makesIn K CK = true)
    (kcK : PySem.W.keepIn K (.ref CK) = true)
    (haK : PySem.W.findIn K (.ref CK) "__class__" = some (some (.builtin "object.__class__")))
    (hmK : PySem.W.mroIn K CK (.type "object") = some true)
    (icK : PySem.W.isClsIn K CK = true)
    (tyK : PySem.W.typeIn K (.ref CK) = some (.type "type"))
    (aCD : PySem.W.nsIn K mainGlobals "Definition" = some (some (.ref CD)))
    (pgD : PySem.W.plainGet K CD Str.empty = true)
    (hdD : PySem.W.hasDictIn K CD = true)
    (poD : PySem.W.plainOver K CD = true)
    (saD : PySem.W.findIn K (.ref CD) "__setattr__" = some (some (.builtin "object.__setattr__")))
    (nD_params : PySem.W.findIn K (.ref CD) "params" = some none)
    (nD_body : PySem.W.findIn K (.ref CD) "body" = some none)
    (mkD : PySem.W.makesIn K CD = true)
    (kcD : PySem.W.keepIn K (.ref CD) = true)
    (haD : PySem.W.findIn K (.ref CD) "__class__" = some (some (.builtin "object.__class__")))
    (hmD : PySem.W.mroIn K CD (.type "object") = some true)
    (icD : PySem.W.isClsIn K CD = true)
    (tyD : PySem.W.typeIn K (.ref CD) = some (.type "type"))
    (mbin : PySem.W.findIn K (.ref CK) "__init__" = some (some (.ref fbin)))
    (ibin : PySem.W.isFn K (.ref fbin) = true)
    (lbin : K.lookup fbin = some ⟨ocbin, odbin, .func (PySem.W.fnOf "__init__" "Book.__init__" (defArgs (inClass (topS 26) 0)) (defBody (inClass (topS 26) 0)) (defScope (inClass (topS 26) 0)) (.ref aTD) kVbin dcbin pmbin anbin cdbin ctbin), slbin⟩)
    (cbin : PySem.W.codeIn K cdbin "Book.__init__" = true)
    (kbin : PySem.W.keepIn K (.ref fbin) = true)
    (lkD : K.lookup aTD = some ⟨clTD, odTD, .seq #[.ref aT0] nTD, slTD⟩)
    (lk0 : K.lookup aT0 = some ⟨.type "tuple", none, .seq #[] nT0, slT0⟩)
    (mbset : PySem.W.findIn K (.ref CK) "__setitem__" = some (some (.ref fbset)))
    (ibset : PySem.W.isFn K (.ref fbset) = true)
    (lbset : K.lookup fbset = some ⟨ocbset, odbset, .func (PySem.W.fnOf "__setitem__" "Book.__setitem__" (defArgs (inClass (topS 26) 1)) (defBody (inClass (topS 26) 1)) (defScope (inClass (topS 26) 1)) .none kVbset dcbset pmbset anbset cdbset ctbset), slbset⟩)
    (cbset : PySem.W.codeIn K cdbset "Book.__setitem__" = true)
    (kbset : PySem.W.keepIn K (.ref fbset) = true)
    (mbget : PySem.W.findIn K (.ref CK) "__getitem__" = some (some (.ref fbget)))
    (ibget : PySem.W.isFn K (.ref fbget) = true)
    (lbget : K.lookup fbget = some ⟨ocbget, odbget, .func (PySem.W.fnOf "__getitem__" "Book.__getitem__" (defArgs (inClass (topS 26) 2)) (defBody (inClass (topS 26) 2)) (defScope (inClass (topS 26) 2)) .none kVbget dcbget pmbget anbget cdbget ctbget), slbget⟩)
    (cbget : PySem.W.codeIn K cdbget "Book.__getitem__" = true)
    (kbget : PySem.W.keepIn K (.ref fbget) = true)
    (mbhas : PySem.W.findIn K (.ref CK) "__contains__" = some (some (.ref fbhas)))
    (ibhas : PySem.W.isFn K (.ref fbhas) = true)
    (lbhas : K.lookup fbhas = some ⟨ocbhas, odbhas, .func (PySem.W.fnOf "__contains__" "Book.__contains__" (defArgs (inClass (topS 26) 3)) (defBody (inClass (topS 26) 3)) (defScope (inClass (topS 26) 3)) .none kVbhas dcbhas pmbhas anbhas cdbhas ctbhas), slbhas⟩)
    (cbhas : PySem.W.codeIn K cdbhas "Book.__contains__" = true)
    (kbhas : PySem.W.keepIn K (.ref fbhas) = true)
    (mblen : PySem.W.findIn K (.ref CK) "__len__" = some (some (.ref fblen)))
    (iblen : PySem.W.isFn K (.ref fblen) = true)
    (lblen : K.lookup fblen = some ⟨ocblen, odblen, .func (PySem.W.fnOf "__len__" "Book.__len__" (defArgs (inClass (topS 26) 4)) (defBody (inClass (topS 26) 4)) (defScope (inClass (topS 26) 4)) .none kVblen dcblen pmblen anblen cdblen ctblen), slblen⟩)
    (cblen : PySem.W.codeIn K cdblen "Book.__len__" = true)
    (kblen : PySem.W.keepIn K (.ref fblen) = true)
    (mbnames : PySem.W.findIn K (.ref CK) "names" = some (some (.ref fbnames)))
    (ibnames : PySem.W.isFn K (.ref fbnames) = true)
    (lbnames : K.lookup fbnames = some ⟨ocbnames, odbnames, .func (PySem.W.fnOf "names" "Book.names" (defArgs (inClass (topS 26) 7)) (defBody (inClass (topS 26) 7)) (defScope (inClass (topS 26) 7)) .none kVbnames dcbnames pmbnames anbnames cdbnames ctbnames), slbnames⟩)
    (cbnames : PySem.W.codeIn K cdbnames "Book.names" = true)
    (kbnames : PySem.W.keepIn K (.ref fbnames) = true)
    (mbit : PySem.W.findIn K (.ref CK) "__iter__" = some (some (.ref fbit)))
    (ibit : PySem.W.isFn K (.ref fbit) = true)
    (lbit : K.lookup fbit = some ⟨ocbit, odbit, .func (PySem.W.fnOf "__iter__" "Book.__iter__" (defArgs (inClass (topS 26) 5)) (defBody (inClass (topS 26) 5)) (defScope (inClass (topS 26) 5)) .none kVbit dcbit pmbit anbit cdbit ctbit), slbit⟩)
    (cbit : PySem.W.codeIn K cdbit "Book.__iter__" = true)
    (kbit : PySem.W.keepIn K (.ref fbit) = true)
    (mbor : PySem.W.findIn K (.ref CK) "__or__" = some (some (.ref fbor)))
    (ibor : PySem.W.isFn K (.ref fbor) = true)
    (lbor : K.lookup fbor = some ⟨ocbor, odbor, .func (PySem.W.fnOf "__or__" "Book.__or__" (defArgs (inClass (topS 26) 8)) (defBody (inClass (topS 26) 8)) (defScope (inClass (topS 26) 8)) .none kVbor dcbor pmbor anbor cdbor ctbor), slbor⟩)
    (cbor : PySem.W.codeIn K cdbor "Book.__or__" = true)
    (kbor : PySem.W.keepIn K (.ref fbor) = true)
    (mdin : PySem.W.findIn K (.ref CD) "__init__" = some (some (.ref fdin)))
    (idin : PySem.W.isFn K (.ref fdin) = true)
    (ldin : K.lookup fdin = some ⟨ocdin, oddin, .func (PySem.W.fnOf "__init__" "Definition.__init__" (defArgs (inClass (topS 25) 0)) (defBody (inClass (topS 25) 0)) (defScope (inClass (topS 25) 0)) .none kVdin dcdin pmdin andin cddin ctdin), sldin⟩)
    (cdin : PySem.W.codeIn K cddin "Definition.__init__" = true)
    (kdin : PySem.W.keepIn K (.ref fdin) = true)
    (gMd : PySem.W.nsIn K mainGlobals "MOST_DEFINITIONS" = some (some (.int iMd tMd)))
    (hMd : iMd = 12)
    (gMp : PySem.W.nsIn K mainGlobals "MOST_PARAMS" = some (some (.int iMp tMp)))
    (hMp : iMp = 4)
    (z_dict : PySem.W.nsIn K mainGlobals "dict" = some (none))
    (z_sorted : PySem.W.nsIn K mainGlobals "sorted" = some (none))
    (aCN : PySem.W.nsIn K mainGlobals "Net" = some (some (.ref N)))
    (pgN : PySem.W.plainGet K N Str.empty = true)
    (hdN : PySem.W.hasDictIn K N = true)
    (poN : PySem.W.plainOver K N = true)
    (saN : PySem.W.findIn K (.ref N) "__setattr__" = some (some (.builtin "object.__setattr__")))
    (nN_members : PySem.W.findIn K (.ref N) "members" = some none)
    (mkN : PySem.W.makesIn K N = true)
    (kcN : PySem.W.keepIn K (.ref N) = true)
    (haN : PySem.W.findIn K (.ref N) "__class__" = some (some (.builtin "object.__class__")))
    (hmN : PySem.W.mroIn K N (.type "object") = some true)
    (icN : PySem.W.isClsIn K N = true)
    (tyN : PySem.W.typeIn K (.ref N) = some (.type "type"))
    (mnin : PySem.W.findIn K (.ref N) "__init__" = some (some (.ref fnin)))
    (inin : PySem.W.isFn K (.ref fnin) = true)
    (lnin : K.lookup fnin = some ⟨ocnin, odnin, .func (PySem.W.fnOf "__init__" "Net.__init__" (defArgs (inClass (topS 40) 0)) (defBody (inClass (topS 40) 0)) (defScope (inClass (topS 40) 0)) .none kVnin dcnin pmnin annin cdnin ctnin), slnin⟩)
    (cnin : PySem.W.codeIn K cdnin "Net.__init__" = true)
    (knin : PySem.W.keepIn K (.ref fnin) = true)
    (mnlen : PySem.W.findIn K (.ref N) "__len__" = some (some (.ref fnlen)))
    (inlen : PySem.W.isFn K (.ref fnlen) = true)
    (lnlen : K.lookup fnlen = some ⟨ocnlen, odnlen, .func (PySem.W.fnOf "__len__" "Net.__len__" (defArgs (inClass (topS 40) 1)) (defBody (inClass (topS 40) 1)) (defScope (inClass (topS 40) 1)) .none kVnlen dcnlen pmnlen annlen cdnlen ctnlen), slnlen⟩)
    (cnlen : PySem.W.codeIn K cdnlen "Net.__len__" = true)
    (knlen : PySem.W.keepIn K (.ref fnlen) = true)
    (mnIt : PySem.W.findIn K (.ref N) "__iter__" = some (some (.ref fnIt)))
    (inIt : PySem.W.isFn K (.ref fnIt) = true)
    (lnIt : K.lookup fnIt = some ⟨ocnIt, odnIt, .func (PySem.W.fnOf "__iter__" "Net.__iter__" (defArgs (inClass (topS 40) 2)) (defBody (inClass (topS 40) 2)) (defScope (inClass (topS 40) 2)) .none kVnIt dcnIt pmnIt annIt cdnIt ctnIt), slnIt⟩)
    (cnIt : PySem.W.codeIn K cdnIt "Net.__iter__" = true)
    (knIt : PySem.W.keepIn K (.ref fnIt) = true)
    (aCP : PySem.W.nsIn K mainGlobals "Program" = some (some (.ref CP)))
    (pgP : PySem.W.plainGet K CP Str.empty = true)
    (hdP : PySem.W.hasDictIn K CP = true)
    (poP : PySem.W.plainOver K CP = true)
    (saP : PySem.W.findIn K (.ref CP) "__setattr__" = some (some (.builtin "object.__setattr__")))
    (nP_machines : PySem.W.findIn K (.ref CP) "machines" = some none)
    (nP_channels : PySem.W.findIn K (.ref CP) "channels" = some none)
    (nP_by_channel_name : PySem.W.findIn K (.ref CP) "by_channel_name" = some none)
    (nP_book : PySem.W.findIn K (.ref CP) "book" = some none)
    (nP_net : PySem.W.findIn K (.ref CP) "net" = some none)
    (mkP : PySem.W.makesIn K CP = true)
    (kcP : PySem.W.keepIn K (.ref CP) = true)
    (haP : PySem.W.findIn K (.ref CP) "__class__" = some (some (.builtin "object.__class__")))
    (hmP : PySem.W.mroIn K CP (.type "object") = some true)
    (icP : PySem.W.isClsIn K CP = true)
    (tyP : PySem.W.typeIn K (.ref CP) = some (.type "type"))
    (mpin : PySem.W.findIn K (.ref CP) "__init__" = some (some (.ref fpin)))
    (ipin : PySem.W.isFn K (.ref fpin) = true)
    (lpin : K.lookup fpin = some ⟨ocpin, odpin, .func (PySem.W.fnOf "__init__" "Program.__init__" (defArgs (inClass (topS 46) 0)) (defBody (inClass (topS 46) 0)) (defScope (inClass (topS 46) 0)) .none kVpin dcpin pmpin anpin cdpin ctpin), slpin⟩)
    (cpin : PySem.W.codeIn K cdpin "Program.__init__" = true)
    (kpin : PySem.W.keepIn K (.ref fpin) = true)
    (mpdec : PySem.W.findIn K (.ref CP) "declared" = some (some (.ref fpdec)))
    (ipdec : PySem.W.isFn K (.ref fpdec) = true)
    (lpdec : K.lookup fpdec = some ⟨ocpdec, odpdec, .func (PySem.W.fnOf "declared" "Program.declared" (defArgs (inClass (topS 46) 2)) (defBody (inClass (topS 46) 2)) (defScope (inClass (topS 46) 2)) .none kVpdec dcpdec pmpdec anpdec cdpdec ctpdec), slpdec⟩)
    (cpdec : PySem.W.codeIn K cdpdec "Program.declared" = true)
    (kpdec : PySem.W.keepIn K (.ref fpdec) = true)
    (gMm : PySem.W.nsIn K mainGlobals "MOST_MACHINES" = some (some (.int iMm tMm)))
    (hMm : iMm = 6)
    (gMc : PySem.W.nsIn K mainGlobals "MOST_CHANNELS" = some (some (.int iMc tMc)))
    (hMc : iMc = 8)
    (aarenames : PySem.W.nsIn K mainGlobals "are_names" = some (some (.ref farenames)))
    (larenames : K.lookup farenames = some ⟨ocarenames, odarenames, .func (PySem.W.fnOf "are_names" "are_names" (defArgs (topS 9)) (defBody (topS 9)) (defScope (topS 9)) .none kVarenames dcarenames pmarenames anarenames cdarenames ctarenames), slarenames⟩)
    (carenames : PySem.W.codeIn K cdarenames "are_names" = true)
    (karenames : PySem.W.keepIn K (.ref farenames) = true)
    (aisseats : PySem.W.nsIn K mainGlobals "is_seats" = some (some (.ref fisseats)))
    (lisseats : K.lookup fisseats = some ⟨ocisseats, odisseats, .func (PySem.W.fnOf "is_seats" "is_seats" (defArgs (topS 13)) (defBody (topS 13)) (defScope (topS 13)) .none kVisseats dcisseats pmisseats anisseats cdisseats ctisseats), slisseats⟩)
    (cisseats : PySem.W.codeIn K cdisseats "is_seats" = true)
    (kisseats : PySem.W.keepIn K (.ref fisseats) = true)
    (alim : PySem.W.nsIn K mainGlobals "limited" = some (some (.ref flim)))
    (llim : K.lookup flim = some ⟨oclim, odlim, .func (PySem.W.fnOf "limited" "limited" (defArgs (topS 27)) (defBody (topS 27)) (defScope (topS 27)) .none kVlim dclim pmlim anlim cdlim ctlim), sllim⟩)
    (clim : PySem.W.codeIn K cdlim "limited" = true)
    (klim : PySem.W.keepIn K (.ref flim) = true)
    (auni : PySem.W.nsIn K mainGlobals "united" = some (some (.ref funi)))
    (luni : K.lookup funi = some ⟨ocuni, oduni, .func (PySem.W.fnOf "united" "united" (defArgs (topS 28)) (defBody (topS 28)) (defScope (topS 28)) .none kVuni dcuni pmuni anuni cduni ctuni), sluni⟩)
    (cuni : PySem.W.codeIn K cduni "united" = true)
    (kuni : PySem.W.keepIn K (.ref funi) = true)
    (aops : PySem.W.nsIn K mainGlobals "check_operands" = some (some (.ref fops)))
    (lops : K.lookup fops = some ⟨ocops, odops, .func (PySem.W.fnOf "check_operands" "check_operands" (defArgs (topS 52)) (defBody (topS 52)) (defScope (topS 52)) .none kVops dcops pmops anops cdops ctops), slops⟩)
    (cops : PySem.W.codeIn K cdops "check_operands" = true)
    (kops : PySem.W.keepIn K (.ref fops) = true)
    (achkC : PySem.W.nsIn K mainGlobals "check_call" = some (some (.ref fchkC)))
    (lchkC : K.lookup fchkC = some ⟨occhkC, odchkC, .func (PySem.W.fnOf "check_call" "check_call" (defArgs (topS 51)) (defBody (topS 51)) (defScope (topS 51)) .none kVchkC dcchkC pmchkC anchkC cdchkC ctchkC), slchkC⟩)
    (cchkC : PySem.W.codeIn K cdchkC "check_call" = true)
    (kchkC : PySem.W.keepIn K (.ref fchkC) = true)
    (achkP : PySem.W.nsIn K mainGlobals "check_process" = some (some (.ref fchkP)))
    (lchkP : K.lookup fchkP = some ⟨occhkP, odchkP, .func (PySem.W.fnOf "check_process" "check_process" (defArgs (topS 50)) (defBody (topS 50)) (defScope (topS 50)) .none kVchkP dcchkP pmchkP anchkP cdchkP ctchkP), slchkP⟩)
    (cchkP : PySem.W.codeIn K cdchkP "check_process" = true)
    (kchkP : PySem.W.keepIn K (.ref fchkP) = true)
    (achkN : PySem.W.nsIn K mainGlobals "check_names" = some (some (.ref fchkN)))
    (lchkN : K.lookup fchkN = some ⟨occhkN, odchkN, .func (PySem.W.fnOf "check_names" "check_names" (defArgs (topS 49)) (defBody (topS 49)) (defScope (topS 49)) .none kVchkN dcchkN pmchkN anchkN cdchkN ctchkN), slchkN⟩)
    (cchkN : PySem.W.codeIn K cdchkN "check_names" = true)
    (kchkN : PySem.W.keepIn K (.ref fchkN) = true)
    (adc : PySem.W.nsIn K mainGlobals "direct_calls" = some (some (.ref fdc)))
    (ldc : K.lookup fdc = some ⟨ocdc, oddc, .func (PySem.W.fnOf "direct_calls" "direct_calls" (defArgs (topS 54)) (defBody (topS 54)) (defScope (topS 54)) .none kVdc dcdc pmdc andc cddc ctdc), sldc⟩)
    (cdc : PySem.W.codeIn K cddc "direct_calls" = true)
    (kdc : PySem.W.keepIn K (.ref fdc) = true)
    (anb : PySem.W.nsIn K mainGlobals "names_behind" = some (some (.ref fnb)))
    (lnb : K.lookup fnb = some ⟨ocnb, odnb, .func (PySem.W.fnOf "names_behind" "names_behind" (defArgs (topS 55)) (defBody (topS 55)) (defScope (topS 55)) .none kVnb dcnb pmnb annb cdnb ctnb), slnb⟩)
    (cnb : PySem.W.codeIn K cdnb "names_behind" = true)
    (knb : PySem.W.keepIn K (.ref fnb) = true)
    (aends : PySem.W.nsIn K mainGlobals "check_ends" = some (some (.ref fends)))
    (lends : K.lookup fends = some ⟨ocends, odends, .func (PySem.W.fnOf "check_ends" "check_ends" (defArgs (topS 53)) (defBody (topS 53)) (defScope (topS 53)) .none kVends dcends pmends anends cdends ctends), slends⟩)
    (cends : PySem.W.codeIn K cdends "check_ends" = true)
    (kends : PySem.W.keepIn K (.ref fends) = true)
    (achs : PySem.W.nsIn K mainGlobals "check_channels" = some (some (.ref fchs)))
    (lchs : K.lookup fchs = some ⟨occhs, odchs, .func (PySem.W.fnOf "check_channels" "check_channels" (defArgs (topS 47)) (defBody (topS 47)) (defScope (topS 47)) .none kVchs dcchs pmchs anchs cdchs ctchs), slchs⟩)
    (cchs : PySem.W.codeIn K cdchs "check_channels" = true)
    (kchs : PySem.W.keepIn K (.ref fchs) = true)
    (anum : PySem.W.nsIn K mainGlobals "numbered_channels" = some (some (.ref fnum)))
    (lnum : K.lookup fnum = some ⟨ocnum, odnum, .func (PySem.W.fnOf "numbered_channels" "numbered_channels" (defArgs (topS 48)) (defBody (topS 48)) (defScope (topS 48)) .none kVnum dcnum pmnum annum cdnum ctnum), slnum⟩)
    (cnum : PySem.W.codeIn K cdnum "numbered_channels" = true)
    (knum : PySem.W.keepIn K (.ref fnum) = true)
    (fi : PySem.W.fnIn K fbget = true)
    (nqK : PySem.W.noSeq K CK = true)
    (opK : PySem.W.selfFirst K CK = true)
    (eKC : (Value.ref CK == Value.ref C) = false)
    (eKD : (Value.ref CK == Value.ref CD) = false)
    (z_iter : PySem.W.nsIn K mainGlobals "iter" = some (none))
    (z_list : PySem.W.nsIn K mainGlobals "list" = some (none))
    (rdC : PySem.W.readsIn K C (.type "type") = true)
    (gaC : PySem.W.specialIn K (.ref C) "__getattribute__" = some (some (.builtin "type.__getattribute__")))
    (sstop : PySem.W.findCls K (.ref C) (.type "type") "stop" = some (.get (.builtin "staticmethod.__get__") (.ref pstop) .none (.ref C)))
    (rstop : PySem.W.recIn K pstop "staticmethod" = some (.ref fststop :: reststop))
    (lststop : K.lookup fststop = some ⟨ocststop, odststop, .func (PySem.W.fnOf "stop" "Process.stop" (defArgs (inClass (topS 39) 1)) (defBody (inClass (topS 39) 1)) (defScope (inClass (topS 39) 1)) .none kVststop dcststop pmststop anststop cdststop ctststop), slststop⟩)
    (cststop : PySem.W.codeIn K cdststop "Process.stop" = true)
    (kststop : PySem.W.keepIn K (.ref fststop) = true)
    (soffer : PySem.W.findCls K (.ref C) (.type "type") "offer" = some (.get (.builtin "staticmethod.__get__") (.ref poffer) .none (.ref C)))
    (roffer : PySem.W.recIn K poffer "staticmethod" = some (.ref fstoffer :: restoffer))
    (lstoffer : K.lookup fstoffer = some ⟨ocstoffer, odstoffer, .func (PySem.W.fnOf "offer" "Process.offer" (defArgs (inClass (topS 39) 2)) (defBody (inClass (topS 39) 2)) (defScope (inClass (topS 39) 2)) .none kVstoffer dcstoffer pmstoffer anstoffer cdstoffer ctstoffer), slstoffer⟩)
    (cstoffer : PySem.W.codeIn K cdstoffer "Process.offer" = true)
    (kstoffer : PySem.W.keepIn K (.ref fstoffer) = true)
    (snew : PySem.W.findCls K (.ref C) (.type "type") "new" = some (.get (.builtin "staticmethod.__get__") (.ref pnew) .none (.ref C)))
    (rnew : PySem.W.recIn K pnew "staticmethod" = some (.ref fstnew :: restnew))
    (lstnew : K.lookup fstnew = some ⟨ocstnew, odstnew, .func (PySem.W.fnOf "new" "Process.new" (defArgs (inClass (topS 39) 3)) (defBody (inClass (topS 39) 3)) (defScope (inClass (topS 39) 3)) .none kVstnew dcstnew pmstnew anstnew cdstnew ctstnew), slstnew⟩)
    (cstnew : PySem.W.codeIn K cdstnew "Process.new" = true)
    (kstnew : PySem.W.keepIn K (.ref fstnew) = true)
    (swhen : PySem.W.findCls K (.ref C) (.type "type") "when" = some (.get (.builtin "staticmethod.__get__") (.ref pwhen) .none (.ref C)))
    (rwhen : PySem.W.recIn K pwhen "staticmethod" = some (.ref fstwhen :: restwhen))
    (lstwhen : K.lookup fstwhen = some ⟨ocstwhen, odstwhen, .func (PySem.W.fnOf "when" "Process.when" (defArgs (inClass (topS 39) 4)) (defBody (inClass (topS 39) 4)) (defScope (inClass (topS 39) 4)) .none kVstwhen dcstwhen pmstwhen anstwhen cdstwhen ctstwhen), slstwhen⟩)
    (cstwhen : PySem.W.codeIn K cdstwhen "Process.when" = true)
    (kstwhen : PySem.W.keepIn K (.ref fstwhen) = true)
    (scall : PySem.W.findCls K (.ref C) (.type "type") "call" = some (.get (.builtin "staticmethod.__get__") (.ref pcall) .none (.ref C)))
    (rcall : PySem.W.recIn K pcall "staticmethod" = some (.ref fstcall :: restcall))
    (lstcall : K.lookup fstcall = some ⟨ocstcall, odstcall, .func (PySem.W.fnOf "call" "Process.call" (defArgs (inClass (topS 39) 5)) (defBody (inClass (topS 39) 5)) (defScope (inClass (topS 39) 5)) .none kVstcall dcstcall pmstcall anstcall cdstcall ctstcall), slstcall⟩)
    (cstcall : PySem.W.codeIn K cdstcall "Process.call" = true)
    (kstcall : PySem.W.keepIn K (.ref fstcall) = true)
    (acellat : PySem.W.nsIn K mainGlobals "_law_cell_at" = some (some (.ref fcellat)))
    (lcellat : K.lookup fcellat = some ⟨occellat, odcellat, .func (PySem.W.fnOf "_law_cell_at" "_law_cell_at" (defArgs (topS 57)) (defBody (topS 57)) (defScope (topS 57)) .none kVcellat dccellat pmcellat ancellat cdcellat ctcellat), slcellat⟩)
    (ccellat : PySem.W.codeIn K cdcellat "_law_cell_at" = true)
    (kcellat : PySem.W.keepIn K (.ref fcellat) = true)
    (amixed : PySem.W.nsIn K mainGlobals "_law_mixed" = some (some (.ref fmixed)))
    (lmixed : K.lookup fmixed = some ⟨ocmixed, odmixed, .func (PySem.W.fnOf "_law_mixed" "_law_mixed" (defArgs (topS 58)) (defBody (topS 58)) (defScope (topS 58)) .none kVmixed dcmixed pmmixed anmixed cdmixed ctmixed), slmixed⟩)
    (cmixed : PySem.W.codeIn K cdmixed "_law_mixed" = true)
    (kmixed : PySem.W.keepIn K (.ref fmixed) = true)
    (arow : PySem.W.nsIn K mainGlobals "_law_row" = some (some (.ref frow)))
    (lrow : K.lookup frow = some ⟨ocrow, odrow, .func (PySem.W.fnOf "_law_row" "_law_row" (defArgs (topS 59)) (defBody (topS 59)) (defScope (topS 59)) .none kVrow dcrow pmrow anrow cdrow ctrow), slrow⟩)
    (crow : PySem.W.codeIn K cdrow "_law_row" = true)
    (krow : PySem.W.keepIn K (.ref frow) = true)
    (abody : PySem.W.nsIn K mainGlobals "_law_body" = some (some (.ref fbody)))
    (lbody : K.lookup fbody = some ⟨ocbody, odbody, .func (PySem.W.fnOf "_law_body" "_law_body" (defArgs (topS 60)) (defBody (topS 60)) (defScope (topS 60)) .none kVbody dcbody pmbody anbody cdbody ctbody), slbody⟩)
    (cbody : PySem.W.codeIn K cdbody "_law_body" = true)
    (kbody : PySem.W.keepIn K (.ref fbody) = true)
    (aleast : PySem.W.nsIn K mainGlobals "_law_least" = some (some (.ref fleast)))
    (lleast : K.lookup fleast = some ⟨ocleast, odleast, .func (PySem.W.fnOf "_law_least" "_law_least" (defArgs (topS 61)) (defBody (topS 61)) (defScope (topS 61)) .none kVleast dcleast pmleast anleast cdleast ctleast), slleast⟩)
    (cleast : PySem.W.codeIn K cdleast "_law_least" = true)
    (kleast : PySem.W.keepIn K (.ref fleast) = true)
    (alaw : PySem.W.nsIn K mainGlobals "law" = some (some (.ref flaw)))
    (llaw : K.lookup flaw = some ⟨oclaw, odlaw, .func (PySem.W.fnOf "law" "law" (defArgs (topS 62)) (defBody (topS 62)) (defScope (topS 62)) .none kVlaw dclaw pmlaw anlaw cdlaw ctlaw), sllaw⟩)
    (claw : PySem.W.codeIn K cdlaw "law" = true)
    (klaw : PySem.W.keepIn K (.ref flaw) = true)
    (s23 : PySem.W.subIn K (.ref C2) (.ref C3) = some false)
    (s43 : PySem.W.subIn K (.ref C4) (.ref C3) = some false)
    (s42 : PySem.W.subIn K (.ref C4) (.ref C2) = some false)
    (z_set : PySem.W.nsIn K mainGlobals "set" = some (none))
    (z_abs : PySem.W.nsIn K mainGlobals "abs" = some (none))
    (z_range : PySem.W.nsIn K mainGlobals "range" = some (none)) :
    ∃ fd : FuncData, (∀ (s : Shared) (v : Value), BindsTo s fd ⟨[v], []⟩ [("_law_script", v)]) ∧ ∀ base : Heap, K.In base → base.Ns mainGlobals mg → FnOk P w K mg base CX0 29 fa fd ["_law_script"] (spLaw K) := by
  have e := hfa.symm.trans (PySem.W.mg_of X G alaw)
  cases e
  subst hL hD hN hT hM hDe hSi hOp hMd hMp hMm hMc
  have TB : ErrTxt P K mg "BadTerm" CB fB := { gC := PySem.W.mg_of X G aB, cls := ⟨nmB, qB, NB, bsB, _, snB, subB, abB, colB, ddB, m0, m1, m2, m3, m5, xB, rfl⟩, ei := eiB, sa := saB, noN := noB, iC := iB, tC := tB, kC := kB, exC := exB, veC := veB, tyC := tyB, slf := mroB, sup := spB, opq := opq, gs := PySem.W.mg_none_of X G z_super, top := topB, fn := ⟨ocB, odB, anB, kVB, dcB, pmB, ctB, slB, _, cda, cc, ccl, clB, cdd, cld, ccs, csl, vsB, fileB, tfB, zM, b1, b2, q0, r0, r1, r2, r3, r4, r5, r6, r7, r8, lB, cB, oB, vB, fB1, ceB, zMB, lnB⟩ }
  have T2 : FsBname.ErrTxt P K mg "NoName" C2 fI2 := { gC := PySem.W.mg_of X G gn2, cls := ⟨nm2, q2, N2, bs2, _, sn2, sub2, ab2, col2, dd2, m2_0, m2_1, m2_2, m2_3, m2_5, x2, rfl⟩, ei := ei2, sa := sa2, noN := no2, iC := iB2, tC := tB2, kC := kp2, exC := ex2, veC := ve2, tyC := ty2, slf := mr2, sup := sp2, opq := opq, gs := PySem.W.mg_none_of X G z_super, top := topB, fn := ⟨ocB2, odB2, anB2, kVB2, dcB2, pmB2, ctB2, slB2, _, cda2, cc2, ccl2, clB2, cdd2, cld2, ccs2, csl2, vsB2, fileB2, tfB2, zM2, b2_1, b2_2, q2_0, r2_0, r2_1, r2_2, r2_3, r2_4, r2_5, r2_6, r2_7, r2_8, lB2, cB2, oB2, vB2, fB2, ce2, zM2l, ln2⟩ }
  have T3 : FsBname.ErrTxt P K mg "WrongCount" C3 fI3 := { gC := PySem.W.mg_of X G gn3, cls := ⟨nm3, q3, N3, bs3, _, sn3, sub3, ab3, col3, dd3, m3_0, m3_1, m3_2, m3_3, m3_5, x3, rfl⟩, ei := ei3, sa := sa3, noN := no3, iC := iB3, tC := tB3, kC := kp3, exC := ex3, veC := ve3, tyC := ty3, slf := mr3, sup := sp3, opq := opq, gs := PySem.W.mg_none_of X G z_super, top := topB, fn := ⟨ocB3, odB3, anB3, kVB3, dcB3, pmB3, ctB3, slB3, _, cda3, cc3, ccl3, clB3, cdd3, cld3, ccs3, csl3, vsB3, fileB3, tfB3, zM3, b3_1, b3_2, q3_0, r3_0, r3_1, r3_2, r3_3, r3_4, r3_5, r3_6, r3_7, r3_8, lB3, cB3, oB3, vB3, fB3, ce3, zM3l, ln3⟩ }
  have T4 : FsBname.ErrTxt P K mg "Endless" C4 fI4 := { gC := PySem.W.mg_of X G gn4, cls := ⟨nm4, q4, N4, bs4, _, sn4, sub4, ab4, col4, dd4, m4_0, m4_1, m4_2, m4_3, m4_5, x4, rfl⟩, ei := ei4, sa := sa4, noN := no4, iC := iB4, tC := tB4, kC := kp4, exC := ex4, veC := ve4, tyC := ty4, slf := mr4, sup := sp4, opq := opq, gs := PySem.W.mg_none_of X G z_super, top := topB, fn := ⟨ocB4, odB4, anB4, kVB4, dcB4, pmB4, ctB4, slB4, _, cda4, cc4, ccl4, clB4, cdd4, cld4, ccs4, csl4, vsB4, fileB4, tfB4, zM4, b4_1, b4_2, q4_0, r4_0, r4_1, r4_2, r4_3, r4_4, r4_5, r4_6, r4_7, r4_8, lB4, cB4, oB4, vB4, fB4, ce4, zM4l, ln4⟩ }
  have T5 : FsBmachine.ErrTxt P K mg "NoMachine" C5 fI5 := { gC := PySem.W.mg_of X G gn5, cls := ⟨nm5, q5, N5, bs5, _, sn5, sub5, ab5, col5, dd5, m5_0, m5_1, m5_2, m5_3, m5_5, x5, rfl⟩, ei := ei5, sa := sa5, noN := no5, iC := iB5, tC := tB5, kC := kp5, exC := ex5, veC := ve5, tyC := ty5, slf := mr5, sup := sp5, opq := opq, gs := PySem.W.mg_none_of X G z_super, top := topB, fn := ⟨ocB5, odB5, anB5, kVB5, dcB5, pmB5, ctB5, slB5, _, cda5, cc5, ccl5, clB5, cdd5, cld5, ccs5, csl5, vsB5, fileB5, tfB5, zM5, b5_1, b5_2, q5_0, r5_0, r5_1, r5_2, r5_3, r5_4, r5_5, r5_6, r5_7, r5_8, lB5, cB5, oB5, vB5, fB5, ce5, zM5l, ln5⟩ }
  have B : BasT K mg := { letters := ⟨_, PySem.W.mg_of X G gL, _, rfl⟩, digits := ⟨_, PySem.W.mg_of X G gD, _, rfl⟩, nlen := ⟨_, PySem.W.mg_of X G gN, _, rfl⟩, reserved := ⟨aR, PySem.W.mg_of X G gR, fun H => .inr ⟨_, _, _, lR, rfl, rfl, by rw [sizeLine_eq]; omega, hR⟩⟩, toolong := ⟨_, PySem.W.mg_of X G gT, _, rfl⟩, seats := ⟨_, PySem.W.mg_of X G gM, _, rfl⟩, isinst := PySem.W.mg_none_of X G z_isinstance, str := PySem.W.mg_none_of X G z_str, int := PySem.W.mg_none_of X G z_int, bool := PySem.W.mg_none_of X G z_bool, len := PySem.W.mg_none_of X G z_len, all := PySem.W.mg_none_of X G z_all }
  have T : TerT K mg C CB := { cl := ⟨pg, hd, po, sa⟩, nK := n_kind, nP := n_parts, nD := n_depth, nS := n_size, mgC := PySem.W.mg_of X G aC, kStr := kit_no ic ty no_str, kInt := kit_no ic ty no_int, kTup := kit_no ic ty no_tuple, ha := ha, hn := hn, htk := ht, hm := hm, sum := PySem.W.mg_none_of X G z_sum, max := PySem.W.mg_none_of X G z_max, tuple := PySem.W.mg_none_of X G z_tuple, depth := ⟨_, PySem.W.mg_of X G gDe, _, rfl⟩, size := ⟨_, PySem.W.mg_of X G gSi, _, rfl⟩ }
  have Finit := fun_mk (st := (inClass (topS 39) 0)) linit cinit kinit
  have Binit := Finit.binds (ps := ["self", "kind", "parts"]) fun _ _ _ _ _ _ us hl => match us, hl with | [_, _, _], _ => rfl
  have Fisname := fun_mk (st := (topS 8)) lisname cisname kisname
  have Bisname := Fisname.binds (ps := ["text"]) fun _ _ _ _ _ _ us hl => match us, hl with | [_], _ => rfl
  have Fisint := fun_mk (st := (topS 10)) lisint cisint kisint
  have Bisint := Fisint.binds (ps := ["value"]) fun _ _ _ _ _ _ us hl => match us, hl with | [_], _ => rfl
  have Fisshort := fun_mk (st := (topS 11)) lisshort cisshort kisshort
  have Bisshort := Fisshort.binds (ps := ["value"]) fun _ _ _ _ _ _ us hl => match us, hl with | [_], _ => rfl
  have Fisop := fun_mk (st := (topS 12)) lisop cisop kisop
  have Bisop := Fisop.binds (ps := ["part"]) fun _ _ _ _ _ _ us hl => match us, hl with | [_], _ => rfl
  have Fdemand := fun_mk (st := (topS 35)) ldemand cdemand kdemand
  have Bdemand := Fdemand.binds (ps := ["allowed", "field"]) fun _ _ _ _ _ _ us hl => match us, hl with | [_, _], _ => rfl
  have Finner := fun_mk (st := (topS 36)) linner cinner kinner
  have Binner := Finner.binds (ps := ["kind", "parts"]) fun _ _ _ _ _ _ us hl => match us, hl with | [_, _], _ => rfl
  have Fsize := fun_mk (st := (topS 37)) lsize csize ksize
  have Bsize := Fsize.binds (ps := ["kind", "parts"]) fun _ _ _ _ _ _ us hl => match us, hl with | [_, _], _ => rfl
  have Fdepth := fun_mk (st := (topS 38)) ldepth cdepth kdepth
  have Bdepth := Fdepth.binds (ps := ["kind", "parts"]) fun _ _ _ _ _ _ us hl => match us, hl with | [_, _], _ => rfl
  have Fbin : FunD K "__init__" "Book.__init__" (defArgs (inClass (topS 26) 0)) (defBody (inClass (topS 26) 0)) (defScope (inClass (topS 26) 0)) [.ref aT0] [] fbin _ := ⟨⟨ocbin, odbin, .ref aTD, kVbin, dcbin, pmbin, anbin, cdbin, ctbin, slbin, rfl, lbin, cbin, .inr ⟨by simp, aTD, _, [.ref aT0], nTD, rfl, lkD, rfl, .cons rfl .nil⟩, .inl rfl⟩, kbin⟩
  have Fbset := fun_mk (st := (inClass (topS 26) 1)) lbset cbset kbset
  have Bbset := Fbset.binds (ps := ["self", "at", "worth"]) fun _ _ _ _ _ _ us hl => match us, hl with | [_, _, _], _ => rfl
  have Fbget := fun_mk (st := (inClass (topS 26) 2)) lbget cbget kbget
  have Bbget := Fbget.binds (ps := ["self", "at"]) fun _ _ _ _ _ _ us hl => match us, hl with | [_, _], _ => rfl
  have Fbhas := fun_mk (st := (inClass (topS 26) 3)) lbhas cbhas kbhas
  have Bbhas := Fbhas.binds (ps := ["self", "x"]) fun _ _ _ _ _ _ us hl => match us, hl with | [_, _], _ => rfl
  have Fblen := fun_mk (st := (inClass (topS 26) 4)) lblen cblen kblen
  have Bblen := Fblen.binds (ps := ["self"]) fun _ _ _ _ _ _ us hl => match us, hl with | [_], _ => rfl
  have Fbnames := fun_mk (st := (inClass (topS 26) 7)) lbnames cbnames kbnames
  have Bbnames := Fbnames.binds (ps := ["self"]) fun _ _ _ _ _ _ us hl => match us, hl with | [_], _ => rfl
  have Fbit := fun_mk (st := (inClass (topS 26) 5)) lbit cbit kbit
  have Bbit := Fbit.binds (ps := ["self"]) fun _ _ _ _ _ _ us hl => match us, hl with | [_], _ => rfl
  have Fbor := fun_mk (st := (inClass (topS 26) 8)) lbor cbor kbor
  have Bbor := Fbor.binds (ps := ["self", "other"]) fun _ _ _ _ _ _ us hl => match us, hl with | [_, _], _ => rfl
  have Fdin := fun_mk (st := (inClass (topS 25) 0)) ldin cdin kdin
  have Bdin := Fdin.binds (ps := ["self", "params", "body"]) fun _ _ _ _ _ _ us hl => match us, hl with | [_, _, _], _ => rfl
  have TBk : BkT K mg CK CB := { cl := ⟨pgK, hdK, poK, saK⟩, nB := nK_by_name, mgK := PySem.W.mg_of X G aCK, dict := PySem.W.mg_none_of X G z_dict, len := PySem.W.mg_none_of X G z_len, sorted := PySem.W.mg_none_of X G z_sorted, most := ⟨_, PySem.W.mg_of X G gMd, _, rfl⟩ }
  have TDf : DfT K mg CD := { cl := ⟨pgD, hdD, poD, saD⟩, nP := nD_params, nB := nD_body, mgD := PySem.W.mg_of X G aCD, len := PySem.W.mg_none_of X G z_len, tuple := PySem.W.mg_none_of X G z_tuple, most := ⟨_, PySem.W.mg_of X G gMp, _, rfl⟩ }
  have Fnin := fun_mk (st := (inClass (topS 40) 0)) lnin cnin knin
  have Bnin := Fnin.binds (ps := ["self", "processes"]) fun _ _ _ _ _ _ us hl => match us, hl with | [_, _], _ => rfl
  have Fnlen := fun_mk (st := (inClass (topS 40) 1)) lnlen cnlen knlen
  have Bnlen := Fnlen.binds (ps := ["self"]) fun _ _ _ _ _ _ us hl => match us, hl with | [_], _ => rfl
  have FnIt := fun_mk (st := (inClass (topS 40) 2)) lnIt cnIt knIt
  have BnIt := FnIt.binds (ps := ["self"]) fun _ _ _ _ _ _ us hl => match us, hl with | [_], _ => rfl
  have Fpin := fun_mk (st := (inClass (topS 46) 0)) lpin cpin kpin
  have Bpin := Fpin.binds (ps := ["self", "channels", "book", "net"]) fun _ _ _ _ _ _ us hl => match us, hl with | [_, _, _, _], _ => rfl
  have Fpdec := fun_mk (st := (inClass (topS 46) 2)) lpdec cpdec kpdec
  have Bpdec := Fpdec.binds (ps := ["self"]) fun _ _ _ _ _ _ us hl => match us, hl with | [_], _ => rfl
  have Farenames := fun_mk (st := (topS 9)) larenames carenames karenames
  have Barenames := Farenames.binds (ps := ["texts"]) fun _ _ _ _ _ _ us hl => match us, hl with | [_], _ => rfl
  have Fisseats := fun_mk (st := (topS 13)) lisseats cisseats kisseats
  have Bisseats := Fisseats.binds (ps := ["count"]) fun _ _ _ _ _ _ us hl => match us, hl with | [_], _ => rfl
  have Flim := fun_mk (st := (topS 27)) llim clim klim
  have Blim := Flim.binds (ps := ["by_name"]) fun _ _ _ _ _ _ us hl => match us, hl with | [_], _ => rfl
  have Funi := fun_mk (st := (topS 28)) luni cuni kuni
  have Buni := Funi.binds (ps := ["one", "other"]) fun _ _ _ _ _ _ us hl => match us, hl with | [_, _], _ => rfl
  have Fops := fun_mk (st := (topS 52)) lops cops kops
  have Bops := Fops.binds (ps := ["operands", "bound"]) fun _ _ _ _ _ _ us hl => match us, hl with | [_, _], _ => rfl
  have FchkC := fun_mk (st := (topS 51)) lchkC cchkC kchkC
  have BchkC := FchkC.binds (ps := ["call", "bound", "book"]) fun _ _ _ _ _ _ us hl => match us, hl with | [_, _, _], _ => rfl
  have FchkP := fun_mk (st := (topS 50)) lchkP cchkP kchkP
  have BchkP := FchkP.binds (ps := ["process", "bound", "book"]) fun _ _ _ _ _ _ us hl => match us, hl with | [_, _, _], _ => rfl
  have FchkN := fun_mk (st := (topS 49)) lchkN cchkN kchkN
  have BchkN := FchkN.binds (ps := ["channel_names", "book", "net"]) fun _ _ _ _ _ _ us hl => match us, hl with | [_, _, _], _ => rfl
  have Fdc := fun_mk (st := (topS 54)) ldc cdc kdc
  have Bdc := Fdc.binds (ps := ["process"]) fun _ _ _ _ _ _ us hl => match us, hl with | [_], _ => rfl
  have Fnb := fun_mk (st := (topS 55)) lnb cnb knb
  have Bnb := Fnb.binds (ps := ["start", "calls"]) fun _ _ _ _ _ _ us hl => match us, hl with | [_, _], _ => rfl
  have Fends := fun_mk (st := (topS 53)) lends cends kends
  have Bends := Fends.binds (ps := ["book"]) fun _ _ _ _ _ _ us hl => match us, hl with | [_], _ => rfl
  have Fchs := fun_mk (st := (topS 47)) lchs cchs kchs
  have Bchs := Fchs.binds (ps := ["channels", "machines"]) fun _ _ _ _ _ _ us hl => match us, hl with | [_, _], _ => rfl
  have Fnum := fun_mk (st := (topS 48)) lnum cnum knum
  have Bnum := Fnum.binds (ps := ["channels"]) fun _ _ _ _ _ _ us hl => match us, hl with | [_], _ => rfl
  have TN : NtT K mg N := { cl := ⟨pgN, hdN, poN, saN⟩, nM := nN_members, mgN := PySem.W.mg_of X G aCN, len := PySem.W.mg_none_of X G z_len, tuple := PySem.W.mg_none_of X G z_tuple, iter := PySem.W.mg_none_of X G z_iter, list := PySem.W.mg_none_of X G z_list, most := ⟨_, PySem.W.mg_of X G gMm, _, rfl⟩ }
  have TP : PgT K mg CP := { cl := ⟨pgP, hdP, poP, saP⟩, nM := nP_machines, nC := nP_channels, nD := nP_by_channel_name, nB := nP_book, nN := nP_net, len := PySem.W.mg_none_of X G z_len, tuple := PySem.W.mg_none_of X G z_tuple, list := PySem.W.mg_none_of X G z_list }
  have Fststop := fun_mk (st := (inClass (topS 39) 1)) lststop cststop kststop
  have Bststop := Fststop.binds (ps := []) fun _ _ _ _ _ _ us hl => match us, hl with | [], _ => rfl
  have Fstoffer := fun_mk (st := (inClass (topS 39) 2)) lstoffer cstoffer kstoffer
  have Bstoffer := Fstoffer.binds (ps := ["channel", "seat", "seats", "operand", "names", "rest"]) fun _ _ _ _ _ _ us hl => match us, hl with | [_, _, _, _, _, _], _ => rfl
  have Fstnew := fun_mk (st := (inClass (topS 39) 3)) lstnew cstnew kstnew
  have Bstnew := Fstnew.binds (ps := ["name", "seats", "rest"]) fun _ _ _ _ _ _ us hl => match us, hl with | [_, _, _], _ => rfl
  have Fstwhen := fun_mk (st := (inClass (topS 39) 4)) lstwhen cstwhen kstwhen
  have Bstwhen := Fstwhen.binds (ps := ["left", "right", "yes", "no"]) fun _ _ _ _ _ _ us hl => match us, hl with | [_, _, _, _], _ => rfl
  have Fstcall := fun_mk (st := (inClass (topS 39) 5)) lstcall cstcall kstcall
  have Bstcall := Fstcall.binds (ps := ["name", "operands"]) fun _ _ _ _ _ _ us hl => match us, hl with | [_, _], _ => rfl
  have Fcellat := fun_mk (st := (topS 57)) lcellat ccellat kcellat
  have Bcellat := Fcellat.binds (ps := ["_law_script", "_law_k"]) fun _ _ _ _ _ _ us hl => match us, hl with | [_, _], _ => rfl
  have Fmixed := fun_mk (st := (topS 58)) lmixed cmixed kmixed
  have Bmixed := Fmixed.binds (ps := ["_law_cell", "_law_k"]) fun _ _ _ _ _ _ us hl => match us, hl with | [_, _], _ => rfl
  have Frow := fun_mk (st := (topS 59)) lrow crow krow
  have Brow := Frow.binds (ps := ["_law_cell", "_law_many"]) fun _ _ _ _ _ _ us hl => match us, hl with | [_, _], _ => rfl
  have Fbody := fun_mk (st := (topS 60)) lbody cbody kbody
  have Bbody := Fbody.binds (ps := ["_law_row_here", "_law_at", "_law_names"]) fun _ _ _ _ _ _ us hl => match us, hl with | [_, _, _], _ => rfl
  have Fleast := fun_mk (st := (topS 61)) lleast cleast kleast
  have Bleast := Fleast.binds (ps := ["_law_names", "_law_direct"]) fun _ _ _ _ _ _ us hl => match us, hl with | [_, _], _ => rfl
  have Flaw := fun_mk (st := (topS 62)) llaw claw klaw
  have Blaw := Flaw.binds (ps := ["_law_script"]) fun _ _ _ _ _ _ us hl => match us, hl with | [_], _ => rfl
  have EW : ErrW K mg C3 C2 C4 := { gW := PySem.W.mg_of X G gn3, gN := PySem.W.mg_of X G gn2, gE := PySem.W.mg_of X G gn4, xW := ⟨ga3, gg3, ex3, hd3⟩, xN := ⟨ga2, gg2, ex2, hd2⟩, xE := ⟨ga4, gg4, ex4, hd4⟩, nW := no3, nN := no2, nE := no4, tWW := exm_own ex3 ic3 ty3 sb3, tNW := exm_b ex3 ic3 ty3 s23, tNN := exm_own ex2 ic2 ty2 sb2, tEW := exm_b ex3 ic3 ty3 s43, tEN := exm_b ex2 ic2 ty2 s42, tEE := exm_own ex4 ic4 ty4 sb4 }
  refine ⟨PySem.W.fnOf "law" "law" (defArgs (topS 62)) (defBody (topS 62)) (defScope (topS 62)) .none kVlaw dclaw pmlaw anlaw cdlaw ctlaw, fun s v => .of_eq rfl, fun base _ _ => ?_⟩
  have Gisname : CalX P w K mg base CX0 1 "is_name" (spPred nameV) := ⟨_, _, _, ok_is_name Fisname B, PySem.W.mg_of X G aisname, kisname, Bisname⟩
  have Gisint : CalX P w K mg base CX0 1 "is_int" (spPred intV) := ⟨_, _, _, ok_is_int Fisint B, PySem.W.mg_of X G aisint, kisint, Bisint⟩
  have Gisshort : CalX P w K mg base CX0 2 "is_short" (spPred shortV) := ⟨_, _, _, ok_is_short Fisshort B Gisint, PySem.W.mg_of X G aisshort, kisshort, Bisshort⟩
  have Gisop : CalX P w K mg base CX0 3 "is_operand" (spPred operandV) := ⟨_, _, _, ok_is_operand Fisop Gisshort Gisname, PySem.W.mg_of X G aisop, kisop, Bisop⟩
  have Ginner : CalX P w K mg base CX0 1 "inner_processes" (spInner C) := ⟨_, _, _, ok_inner Finner B T, PySem.W.mg_of X G ainner, kinner, Binner⟩
  have Gdepth : CalX P w K mg base CX0 2 "depth_of" (spSize C Pr.depth) := ⟨_, _, _, ok_depth Fdepth T Ginner, PySem.W.mg_of X G adepth, kdepth, Bdepth⟩
  have Gsize : CalX P w K mg base CX0 2 "size_of" (spSize C Pr.size) := ⟨_, _, _, ok_size Fsize B T Ginner, PySem.W.mg_of X G asize, ksize, Bsize⟩
  have OD : FnOk P w K mg base (L2.CX P w) 2 fdemand _ ["allowed", "field"] (spDemand CB) := ok_demand Fdemand (raises_bt (k := 1) (by decide) TB)
  have G2d : CalX P w K mg base (L2.CX P w) 2 "demand" (spDemand CB) := ⟨_, _, _, OD, PySem.W.mg_of X G ademand, kdemand, Bdemand⟩
  have G3d : CalX P w K mg base (L2.CX P w) 3 "demand" (spDemand CB) := ⟨_, _, _, OD.mono (by decide), PySem.W.mg_of X G ademand, kdemand, Bdemand⟩
  have GM : MakX P w K mg base (L2.CX P w) 3 "Process" C (spInit C CB) := ⟨_, _, _, ⟨mk, minit, iinit, kc⟩, ok_init Finit T Gdepth Gsize G2d (Nat.le_refl _), PySem.W.mg_of X G aC, Binit⟩
  have Garenames : CalX P w K mg base CX0 2 "are_names" spNames := ⟨_, _, _, ok_are_names Farenames B (PySem.W.mg_none_of X G z_set) Gisname, PySem.W.mg_of X G aarenames, karenames, Barenames⟩
  have Gisseats : CalX P w K mg base CX0 2 "is_seats" (spPred seatsV) := ⟨_, _, _, ok_is_seats Fisseats B Gisint, PySem.W.mg_of X G aisseats, kisseats, Bisseats⟩
  have G25d : CalX P w K mg base (L2.CX P w) 25 "demand" (spDemand CB) := ⟨_, _, _, OD.mono (by decide), PySem.W.mg_of X G ademand, kdemand, Bdemand⟩
  have Glim : CalX P w K mg base (L2.CX P w) 2 "limited" (spLim CB) := ⟨_, _, _, ok_lim (k := 1) Flim TBk (raises_bt (k := 1) (by decide) TB), PySem.W.mg_of X G alim, klim, Blim⟩
  have Guni : CalX P w K mg base CX0 4 "united" spUni0 := ⟨_, _, _, (ok_uni0 (k := 2) Funi Glim).mono (by decide), PySem.W.mg_of X G auni, kuni, Buni⟩
  have OG := ok_bkget (P := P) (w := w) (base := base) (k := 1) Fbget TBk (raises_nm (k := 1) (by decide) T2)
  have OGR := ok_bkgetR (P := P) (w := w) (base := base) (k := 1) Fbget TBk (raises_nm (k := 1) (by decide) T2)
  have IX : IxM K CK fbget := ⟨mbget, ibget, fi⟩
  have CMb : CoM K CK fbhas := ⟨mbhas, ibhas⟩
  have MNb : Meth K CK "names" fbnames := ⟨mbnames, ibnames, kbnames⟩
  have ON := ok_bknames (P := P) (w := w) (base := base) Fbnames TBk
  have OPS := ok_ops (P := P) (w := w) (base := base) (k := 1) (CW := C3) Fops B (raises_nm (k := 1) (by decide) T2)
  have Gops : CalX P w K mg base (L2.CX P w) 3 "check_operands" (spOps C2 C3) := ⟨_, _, _, OPS.mono (by decide), PySem.W.mg_of X G aops, kops, Bops⟩
  have Gops4 : CalX P w K mg base (L2.CX P w) 4 "check_operands" (spOps C2 C3) := ⟨_, _, _, OPS.mono (by decide), PySem.W.mg_of X G aops, kops, Bops⟩
  have GchkC : CalX P w K mg base (L2.CX P w) 4 "check_call" (spChkC CK CD C C2 C3) := ⟨_, _, _, ok_chkC (k := 3) (kg := 2) (by decide) (by decide) FchkC T TDf CMb (ok_bkin Fbhas TBk) Bbhas IX OG Bbget (raises_nm (k := 3) (by decide) T2) (raises_nm (k := 3) (by decide) T3) Gops, PySem.W.mg_of X G achkC, kchkC, BchkC⟩
  have OCP : FnOk P w K mg base (L2.CX P w) 24 fchkP _ ["process", "bound", "book"] (spChkP CK CD C C2 C3 20) := ok_chkP (k := 4) (by decide) FchkP T (PySem.W.mg_of X G achkP) kchkP BchkP Gops4 GchkC 20
  have GchkP : CalX P w K mg base (L2.CX P w) 24 "check_process" (spChkP CK CD C C2 C3 20) := ⟨_, _, _, OCP, PySem.W.mg_of X G achkP, kchkP, BchkP⟩
  have LMn : LenM K N fnlen := ⟨mnlen, inlen⟩
  have FLn : FnOk P w K mg base CX0 1 fnlen _ ["self"] (spLnT (NtR N) K) := (ok_ntln Fnlen TN).imp fun _ _ _ _ ⟨a, t, xs, h1, h2, h3⟩ => ⟨a, t, xs, h1, h2.1, h3⟩
  have MIn : ItM K N fnIt := ⟨mnIt, inIt⟩
  have FIn : ∀ base, FnOk P w K mg base CX0 1 fnIt _ ["self"] (spItT base (NtR N)) := fun base => ok_ntit FnIt TN base
  have GchkN : CalX P w K mg base (L2.CX P w) 25 "check_names" (spChkN CK CD C N C2 C3) := ⟨_, _, _, ok_chkN (k := 24) (kg := 2) (by decide) (by decide) FchkN TBk TDf MNb ON Bbnames IX OG Bbget MIn FIn BnIt GchkP, PySem.W.mg_of X G achkN, kchkN, BchkN⟩
  have ODC : FnOk P w K mg base CX0 21 fdc _ ["process"] (spDc C 20) := ok_dc (k := 1) (by decide) Fdc T (PySem.W.mg_of X G adc) kdc Bdc 20
  have Gdc : CalX P w K mg base CX0 21 "direct_calls" (spDc C 20) := ⟨_, _, _, ODC, PySem.W.mg_of X G adc, kdc, Bdc⟩
  have Gnb : CalX P w K mg base CX0 1 "names_behind" spNb := ⟨_, _, _, ok_nb Fnb (PySem.W.mg_none_of X G z_list), PySem.W.mg_of X G anb, knb, Bnb⟩
  have Gends : CalX P w K mg base (L2.CX P w) 25 "check_ends" (spEnds CK CD C C4) := ⟨_, _, _, (ok_ends (k := 21) (kg := 2) (by decide) (by decide) Fends TBk TDf MNb ON Bbnames IX OGR Bbget ⟨mbit, ibit⟩ (fun base => ok_bkit Fbit TBk (PySem.W.mg_none_of X G z_iter) base) Bbit Gdc Gnb (raises_nm (k := 21) (by decide) T4)).mono (by decide), PySem.W.mg_of X G aends, kends, Bends⟩
  have Gchs : CalX P w K mg base (L2.CX P w) 25 "check_channels" (spChs CB C5) := ⟨_, _, _, (ok_chs (k := 2) (by decide) Fchs (PySem.W.mg_none_of X G z_len) ⟨_, PySem.W.mg_of X G gMc, _, rfl⟩ G2d Gisname Gisseats Gisint (raises_int (k := 2) (by decide) T5)).mono (by decide), PySem.W.mg_of X G achs, kchs, Bchs⟩
  have Gnum : CalX P w K mg base CX0 1 "numbered_channels" spNum := ⟨_, _, _, ok_num Fnum, PySem.W.mg_of X G anum, knum, Bnum⟩
  have MNt : MakX P w K mg base CX0 3 "Net" N (spNt0 K N) := ⟨_, _, _, ⟨mkN, mnin, inin, kcN⟩, ok_nt0 (k := 2) Fnin TN G2d, PySem.W.mg_of X G aCN, Bnin⟩
  have MB2 : MakX P w K mg base CX0 1 "Book" CK (spBkInit K CK) := ⟨_, _, _, ⟨mkK, mbin, ibin, kcK⟩, ok_bkinit Fbin TBk, PySem.W.mg_of X G aCK, binds_bk2 Fbin⟩
  have MB : MkB0 P w K mg base CK aT0 := ⟨⟨_, _, ⟨mkK, mbin, ibin, kcK⟩, ok_bkinit Fbin TBk, PySem.W.mg_of X G aCK, binds_bk Fbin⟩, ⟨_, _, lk0, rfl, rfl, rfl⟩⟩
  have ed1 : PySem.dunder Operator.BitOr.info.2 = "__or__" := by decide +kernel
  have OMb : OpM K CK .BitOr fbor := ⟨opK, by rw [ed1]; exact mbor, ibor⟩
  have IKb : BkI K CK := ⟨haK, hn, ht, hmK⟩
  have OB := ok_or0 (k := 4) (by decide) Fbor (PySem.W.mg_none_of X G z_isinstance) TBk IKb MB2 Guni
  have PC : PgC P w K mg base C CB CK C2 CD C3 C4 C5 N 25 := { dem := G25d, chs := Gchs, nms := GchkN, ends := Gends, num := Gnum, net := MNt, hk := by decide }
  have OPI := ok_pgI (t0 := aT0) Fpin TP TN PC LMn FLn Bnlen MIn FIn BnIt MB OMb OB Bbor
  have ODcl := ok_decl (P := P) (w := w) (base := base) (CK := CK) (CD := CD) (C := C) (N := N) Fpdec TP
  have MDf : MakX P w K mg base CX0 3 "Definition" CD (spDfInit CD) := ⟨_, _, _, ⟨mkD, mdin, idin, kcD⟩, ok_dfinit Fdin TDf Garenames, PySem.W.mg_of X G aCD, Bdin⟩
  have SMb : StM K CK fbset := ⟨mbset, ibset, nqK⟩
  have OSb := ok_bkset (k := 2) (by decide) Fbset TBk Gisname Glim (raises_bt (k := 2) (by decide) TB)
  have M : MakT P w K mg base C CB 3 := { make := GM, dem := G3d, name := Gisname, seats := Gisseats, operand := Gisop, int := Gisint, names := Garenames, mops := ⟨_, PySem.W.mg_of X G gOp, _, rfl⟩, tuple := PySem.W.mg_none_of X G z_tuple, len := PySem.W.mg_none_of X G z_len, all := PySem.W.mg_none_of X G z_all, hk := Nat.le_refl _ }
  have L : LawT K mg := { len := PySem.W.mg_none_of X G z_len, int := PySem.W.mg_none_of X G z_int, abs := PySem.W.mg_none_of X G z_abs, range := PySem.W.mg_none_of X G z_range }
  have Gcellat : CalX P w K mg base CX0 1 "_law_cell_at" (spCellAt K) := ⟨_, _, _, ok_cell_at Fcellat L, PySem.W.mg_of X G acellat, kcellat, Bcellat⟩
  have Gmixed : CalX P w K mg base CX0 1 "_law_mixed" spMixed := ⟨_, _, _, ok_mixed Fmixed L, PySem.W.mg_of X G amixed, kmixed, Bmixed⟩
  have Grow : CalX P w K mg base CX0 2 "_law_row" spRow := ⟨_, _, _, ok_row Frow L Gmixed, PySem.W.mg_of X G arow, krow, Brow⟩
  have nKC : CK ≠ C := fun z => by rw [z] at eKC; simp at eKC
  have nKD : CK ≠ CD := fun z => by rw [z] at eKD; simp at eKD
  have Sstop : StaX P w K mg base (L2.CX P w) 5 C "stop" (spStop C CB) := ⟨_, _, _, _, _, ⟨rdC, gaC⟩, ⟨sstop, ⟨_, rstop⟩, kststop⟩, ok_stop Fststop M, Bststop⟩
  have Soffer : StaX P w K mg base (L2.CX P w) 5 C "offer" (spOffer C CB) := ⟨_, _, _, _, _, ⟨rdC, gaC⟩, ⟨soffer, ⟨_, roffer⟩, kstoffer⟩, ok_offer Fstoffer M, Bstoffer⟩
  have Snew : StaX P w K mg base (L2.CX P w) 5 C "new" (spNew C CB) := ⟨_, _, _, _, _, ⟨rdC, gaC⟩, ⟨snew, ⟨_, rnew⟩, kstnew⟩, ok_new Fstnew M, Bstnew⟩
  have Swhen : StaX P w K mg base (L2.CX P w) 5 C "when" (spWhen C CB) := ⟨_, _, _, _, _, ⟨rdC, gaC⟩, ⟨swhen, ⟨_, rwhen⟩, kstwhen⟩, ok_when Fstwhen M, Bstwhen⟩
  have Scall : StaX P w K mg base (L2.CX P w) 5 C "call" (spCall K C CB) := ⟨_, _, _, _, _, ⟨rdC, gaC⟩, ⟨scall, ⟨_, rcall⟩, kstcall⟩, ok_call Fstcall M, Bstcall⟩
  have Gbody : CalX P w K mg base CX0 6 "_law_body" (spBody C) := ⟨_, _, _, ok_body (k := 5) (by decide) Fbody L T Sstop Soffer Snew Swhen Scall, PySem.W.mg_of X G abody, kbody, Bbody⟩
  have Gleast : CalX P w K mg base CX0 1 "_law_least" spLeast := ⟨_, _, _, ok_least Fleast (PySem.W.mg_none_of X G z_sorted), PySem.W.mg_of X G aleast, kleast, Bleast⟩
  have MPr : MakX P w K mg base (L2.CX P w) 26 "Program" CP (spPgI CP CK CD C N CB C5 C2 C3 C4) := ⟨_, _, _, ⟨mkP, mpin, ipin, kcP⟩, OPI, PySem.W.mg_of X G aCP, Bpin⟩
  exact ok_law (k := 28) (kb := 6) (jp := 26) (by decide) (by decide) (by decide) nKC nKD Flaw L T TP EW Gcellat Grow Gbody Gleast MB MDf MNt MPr Sstop Soffer Scall SMb (OSb.mono (by decide)) Bbset
theorem walk {l : PySem.W.OpenLaw} {q : Program} {loose : List Str} {XP : (Str → Option Value) → Heap → Prop} {YP : World → Heap → Prop} {d : DefRec} {K : Params → PySem.W.Frag} (hn : l.most = some 63) (hdf : d.params.defaults = [])
    (hY : ∀ (w : World) (h : Heap), YP w h → (K w.params).In h)
    (hF : ∀ (w : World) (mg : Str → Option Value) (fa : Addr) (h : Heap), (K w.params).In h → h.Ns mainGlobals mg → mg d.name = some (.ref fa) →
      ∃ fd : FuncData, (∀ (s : Shared) (u : Value), BindsTo s fd ⟨[u], []⟩ [("_law_script", u)]) ∧ ∀ base : Heap, (K w.params).In base → base.Ns mainGlobals mg → FnOk l.prog w (K w.params) mg base CX0 29 fa fd ["_law_script"] (spLaw (K w.params))) :
    PySem.W.WalkO q loose XP YP l.row.toRowW d [] (fun f vs => PySem.call f vs) :=
  L2.walk_of (n := 63) (k := 29) (x := "_law_script") (CX := fun _ => CX0) (sp := fun w => spLaw (K w.params)) hn (by decide) hdf ⟨rfl, by decide, by decide⟩ hY hF (fun _ _ a ns _ _ hS => ⟨a, ns, rfl, hS, fun _ => rfl⟩) fun _ _ _ _ _ z => z
end Fs

open PySem PySem.W PyProof.Rows
set_option Elab.async false
set_option maxRecDepth 100000 in
set_option maxHeartbeats 0 in
theorem PySem.Challenge.cw_fullseats_k14_definitions_that_never_off_holds : PySem.Challenge.rw_fullseats_k14_definitions_that_never_off.Holds := by
  w_on; o_law; k_head; (case hw => w_witness2)
  k_fill
  refine Fs.walk (l := PySem.Challenge.rw_fullseats_k14_definitions_that_never_off) rfl rfl (fun w h Y => PySem.W.kIn_of Y) ?F
  case F =>
    intro w mg fa h KX G hmg
    refine' Fs.all_mk KX G hmg ?aB ?xB ?eiB ?saB ?noB ?iB ?tB ?kB ?exB ?veB ?tyB ?mroB ?spB ?opq ?lB ?cB ?oB ?vB ?fB1 ?ceB ?lnB ?zMB ?topB ?gaB ?ggB ?hdB ?icB ?sbB ?z_super ?gn2 ?x2 ?ga2 ?gg2 ?sa2 ?no2 ?iB2 ?ex2 ?ve2 ?hd2 ?ty2 ?kp2 ?ic2 ?sb2 ?ei2 ?tB2 ?mr2 ?sp2 ?lB2 ?cB2 ?oB2 ?vB2 ?fB2 ?ce2 ?ln2 ?zM2l ?gn3 ?x3 ?ga3 ?gg3 ?sa3 ?no3 ?iB3 ?ex3 ?ve3 ?hd3 ?ty3 ?kp3 ?ic3 ?sb3 ?ei3 ?tB3 ?mr3 ?sp3 ?lB3 ?cB3 ?oB3 ?vB3 ?fB3 ?ce3 ?ln3 ?zM3l ?gn4 ?x4 ?ga4 ?gg4 ?sa4 ?no4 ?iB4 ?ex4 ?ve4 ?hd4 ?ty4 ?kp4 ?ic4 ?sb4 ?ei4 ?tB4 ?mr4 ?sp4 ?lB4 ?cB4 ?oB4 ?vB4 ?fB4 ?ce4 ?ln4 ?zM4l ?gn5 ?x5 ?ga5 ?gg5 ?sa5 ?no5 ?iB5 ?ex5 ?ve5 ?hd5 ?ty5 ?kp5 ?ic5 ?sb5 ?ei5 ?tB5 ?mr5 ?sp5 ?lB5 ?cB5 ?oB5 ?vB5 ?fB5 ?ce5 ?ln5 ?zM5l ?gL ?hL ?gD ?hD ?gN ?hN ?gT ?hT ?gM ?hM ?gDe ?hDe ?gSi ?hSi ?gR ?lR ?sR ?hR ?z_isinstance ?z_str ?z_int ?z_bool ?z_len ?z_all ?aC ?pg ?hd ?po ?sa ?n_kind ?n_parts ?n_depth ?n_size ?mk ?kc ?ha ?hn ?ht ?hm ?ic ?ty ?no_str ?no_int ?no_tuple ?z_sum ?z_max ?z_tuple ?minit ?iinit ?linit ?cinit ?kinit ?aisname ?lisname ?cisname ?kisname ?aisint ?lisint ?cisint ?kisint ?aisshort ?lisshort ?cisshort ?kisshort ?aisop ?lisop ?cisop ?kisop ?ademand ?ldemand ?cdemand ?kdemand ?ainner ?linner ?cinner ?kinner ?asize ?lsize ?csize ?ksize ?adepth ?ldepth ?cdepth ?kdepth ?gOp ?hOp ?aCK ?pgK ?hdK ?poK ?saK ?nK_by_name ?mkK ?kcK ?haK ?hmK ?icK ?tyK ?aCD ?pgD ?hdD ?poD ?saD ?nD_params ?nD_body ?mkD ?kcD ?haD ?hmD ?icD ?tyD ?mbin ?ibin ?lbin ?cbin ?kbin ?lkD ?lk0 ?mbset ?ibset ?lbset ?cbset ?kbset ?mbget ?ibget ?lbget ?cbget ?kbget ?mbhas ?ibhas ?lbhas ?cbhas ?kbhas ?mblen ?iblen ?lblen ?cblen ?kblen ?mbnames ?ibnames ?lbnames ?cbnames ?kbnames ?mbit ?ibit ?lbit ?cbit ?kbit ?mbor ?ibor ?lbor ?cbor ?kbor ?mdin ?idin ?ldin ?cdin ?kdin ?gMd ?hMd ?gMp ?hMp ?z_dict ?z_sorted ?aCN ?pgN ?hdN ?poN ?saN ?nN_members ?mkN ?kcN ?haN ?hmN ?icN ?tyN ?mnin ?inin ?lnin ?cnin ?knin ?mnlen ?inlen ?lnlen ?cnlen ?knlen ?mnIt ?inIt ?lnIt ?cnIt ?knIt ?aCP ?pgP ?hdP ?poP ?saP ?nP_machines ?nP_channels ?nP_by_channel_name ?nP_book ?nP_net ?mkP ?kcP ?haP ?hmP ?icP ?tyP ?mpin ?ipin ?lpin ?cpin ?kpin ?mpdec ?ipdec ?lpdec ?cpdec ?kpdec ?gMm ?hMm ?gMc ?hMc ?aarenames ?larenames ?carenames ?karenames ?aisseats ?lisseats ?cisseats ?kisseats ?alim ?llim ?clim ?klim ?auni ?luni ?cuni ?kuni ?aops ?lops ?cops ?kops ?achkC ?lchkC ?cchkC ?kchkC ?achkP ?lchkP ?cchkP ?kchkP ?achkN ?lchkN ?cchkN ?kchkN ?adc ?ldc ?cdc ?kdc ?anb ?lnb ?cnb ?knb ?aends ?lends ?cends ?kends ?achs ?lchs ?cchs ?kchs ?anum ?lnum ?cnum ?knum ?fi ?nqK ?opK ?eKC ?eKD ?z_iter ?z_list ?rdC ?gaC ?sstop ?rstop ?lststop ?cststop ?kststop ?soffer ?roffer ?lstoffer ?cstoffer ?kstoffer ?snew ?rnew ?lstnew ?cstnew ?kstnew ?swhen ?rwhen ?lstwhen ?cstwhen ?kstwhen ?scall ?rcall ?lstcall ?cstcall ?kstcall ?acellat ?lcellat ?ccellat ?kcellat ?amixed ?lmixed ?cmixed ?kmixed ?arow ?lrow ?crow ?krow ?abody ?lbody ?cbody ?kbody ?aleast ?lleast ?cleast ?kleast ?alaw ?llaw ?claw ?klaw ?s23 ?s43 ?s42 ?z_set ?z_abs ?z_range
    (case aB => k_is)
    (case xB => k_is)
    (case eiB => kx_is)
    (case saB => k_is)
    (case noB => k_is)
    (case iB => k_is)
    (case tB => k_is)
    (case kB => k_is)
    (case exB => k_is)
    (case veB => k_is)
    (case tyB => k_is)
    (case mroB => k_is)
    (case spB => ks_is)
    (case opq => k_is)
    (case lB => k_is)
    (case cB => k_is)
    (case oB => k_is)
    (case vB => rfl)
    (case fB1 => decide +kernel)
    (case ceB => k_is)
    (case lnB => decide +kernel)
    (case zMB => decide +kernel)
    (case topB => decide +kernel)
    (case gaB => k_is)
    (case ggB => k_is)
    (case hdB => k_is)
    (case icB => k_is)
    (case sbB => first | rfl | k_is)
    (case z_super => k_is)
    (case gn2 => k_is)
    (case x2 => k_is)
    (case ga2 => k_is)
    (case gg2 => k_is)
    (case sa2 => k_is)
    (case no2 => k_is)
    (case iB2 => k_is)
    (case ex2 => k_is)
    (case ve2 => k_is)
    (case hd2 => k_is)
    (case ty2 => k_is)
    (case kp2 => k_is)
    (case ic2 => k_is)
    (case sb2 => first | rfl | k_is)
    (case ei2 => kx_is)
    (case tB2 => k_is)
    (case mr2 => k_is)
    (case sp2 => ks_is)
    (case lB2 => k_is)
    (case cB2 => k_is)
    (case oB2 => k_is)
    (case vB2 => rfl)
    (case fB2 => decide +kernel)
    (case ce2 => k_is)
    (case ln2 => decide +kernel)
    (case zM2l => decide +kernel)
    (case gn3 => k_is)
    (case x3 => k_is)
    (case ga3 => k_is)
    (case gg3 => k_is)
    (case sa3 => k_is)
    (case no3 => k_is)
    (case iB3 => k_is)
    (case ex3 => k_is)
    (case ve3 => k_is)
    (case hd3 => k_is)
    (case ty3 => k_is)
    (case kp3 => k_is)
    (case ic3 => k_is)
    (case sb3 => first | rfl | k_is)
    (case ei3 => kx_is)
    (case tB3 => k_is)
    (case mr3 => k_is)
    (case sp3 => ks_is)
    (case lB3 => k_is)
    (case cB3 => k_is)
    (case oB3 => k_is)
    (case vB3 => rfl)
    (case fB3 => decide +kernel)
    (case ce3 => k_is)
    (case ln3 => decide +kernel)
    (case zM3l => decide +kernel)
    (case gn4 => k_is)
    (case x4 => k_is)
    (case ga4 => k_is)
    (case gg4 => k_is)
    (case sa4 => k_is)
    (case no4 => k_is)
    (case iB4 => k_is)
    (case ex4 => k_is)
    (case ve4 => k_is)
    (case hd4 => k_is)
    (case ty4 => k_is)
    (case kp4 => k_is)
    (case ic4 => k_is)
    (case sb4 => first | rfl | k_is)
    (case ei4 => kx_is)
    (case tB4 => k_is)
    (case mr4 => k_is)
    (case sp4 => ks_is)
    (case lB4 => k_is)
    (case cB4 => k_is)
    (case oB4 => k_is)
    (case vB4 => rfl)
    (case fB4 => decide +kernel)
    (case ce4 => k_is)
    (case ln4 => decide +kernel)
    (case zM4l => decide +kernel)
    (case gn5 => k_is)
    (case x5 => k_is)
    (case ga5 => k_is)
    (case gg5 => k_is)
    (case sa5 => k_is)
    (case no5 => k_is)
    (case iB5 => k_is)
    (case ex5 => k_is)
    (case ve5 => k_is)
    (case hd5 => k_is)
    (case ty5 => k_is)
    (case kp5 => k_is)
    (case ic5 => k_is)
    (case sb5 => first | rfl | k_is)
    (case ei5 => kx_is)
    (case tB5 => k_is)
    (case mr5 => k_is)
    (case sp5 => ks_is)
    (case lB5 => k_is)
    (case cB5 => k_is)
    (case oB5 => k_is)
    (case vB5 => rfl)
    (case fB5 => decide +kernel)
    (case ce5 => k_is)
    (case ln5 => decide +kernel)
    (case zM5l => decide +kernel)
    (case gL => k_is)
    (case hL => decide +kernel)
    (case gD => k_is)
    (case hD => decide +kernel)
    (case gN => k_is)
    (case hN => decide +kernel)
    (case gT => k_is)
    (case hT => decide +kernel)
    (case gM => k_is)
    (case hM => decide +kernel)
    (case gDe => k_is)
    (case hDe => decide +kernel)
    (case gSi => k_is)
    (case hSi => decide +kernel)
    (case gR => k_is)
    (case lR => k_is)
    (case sR => decide +kernel)
    (case hR => exact .cons ⟨_, rfl⟩ (.cons ⟨_, rfl⟩ (.cons ⟨_, rfl⟩ (.cons ⟨_, rfl⟩ (.cons ⟨_, rfl⟩ (.cons ⟨_, rfl⟩ (.cons ⟨_, rfl⟩ (.cons ⟨_, rfl⟩ (.cons ⟨_, rfl⟩ (.cons ⟨_, rfl⟩ (.cons ⟨_, rfl⟩ .nil)))))))))))
    (case z_isinstance => k_is)
    (case z_str => k_is)
    (case z_int => k_is)
    (case z_bool => k_is)
    (case z_len => k_is)
    (case z_all => k_is)
    (case aC => k_is)
    (case pg => k_is)
    (case hd => k_is)
    (case po => k_is)
    (case sa => k_is)
    (case n_kind => k_is)
    (case n_parts => k_is)
    (case n_depth => k_is)
    (case n_size => k_is)
    (case mk => k_is)
    (case kc => k_is)
    (case ha => k_is)
    (case hn => k_is)
    (case ht => k_is)
    (case hm => k_is)
    (case ic => k_is)
    (case ty => k_is)
    (case no_str => k_is)
    (case no_int => k_is)
    (case no_tuple => k_is)
    (case z_sum => k_is)
    (case z_max => k_is)
    (case z_tuple => k_is)
    (case minit => k_is)
    (case iinit => k_is)
    (case linit => k_is)
    (case cinit => k_is)
    (case kinit => k_is)
    (case aisname => k_is)
    (case lisname => k_is)
    (case cisname => k_is)
    (case kisname => k_is)
    (case aisint => k_is)
    (case lisint => k_is)
    (case cisint => k_is)
    (case kisint => k_is)
    (case aisshort => k_is)
    (case lisshort => k_is)
    (case cisshort => k_is)
    (case kisshort => k_is)
    (case aisop => k_is)
    (case lisop => k_is)
    (case cisop => k_is)
    (case kisop => k_is)
    (case ademand => k_is)
    (case ldemand => k_is)
    (case cdemand => k_is)
    (case kdemand => k_is)
    (case ainner => k_is)
    (case linner => k_is)
    (case cinner => k_is)
    (case kinner => k_is)
    (case asize => k_is)
    (case lsize => k_is)
    (case csize => k_is)
    (case ksize => k_is)
    (case adepth => k_is)
    (case ldepth => k_is)
    (case cdepth => k_is)
    (case kdepth => k_is)
    (case gOp => k_is)
    (case hOp => decide +kernel)
    (case aCK => k_is)
    (case pgK => k_is)
    (case hdK => k_is)
    (case poK => k_is)
    (case saK => k_is)
    (case nK_by_name => k_is)
    (case mkK => k_is)
    (case kcK => k_is)
    (case haK => k_is)
    (case hmK => k_is)
    (case icK => k_is)
    (case tyK => k_is)
    (case aCD => k_is)
    (case pgD => k_is)
    (case hdD => k_is)
    (case poD => k_is)
    (case saD => k_is)
    (case nD_params => k_is)
    (case nD_body => k_is)
    (case mkD => k_is)
    (case kcD => k_is)
    (case haD => k_is)
    (case hmD => k_is)
    (case icD => k_is)
    (case tyD => k_is)
    (case mbin => k_is)
    (case ibin => k_is)
    (case lbin => k_is)
    (case cbin => k_is)
    (case kbin => k_is)
    (case lkD => k_is)
    (case lk0 => k_is)
    (case mbset => k_is)
    (case ibset => k_is)
    (case lbset => k_is)
    (case cbset => k_is)
    (case kbset => k_is)
    (case mbget => k_is)
    (case ibget => k_is)
    (case lbget => k_is)
    (case cbget => k_is)
    (case kbget => k_is)
    (case mbhas => k_is)
    (case ibhas => k_is)
    (case lbhas => k_is)
    (case cbhas => k_is)
    (case kbhas => k_is)
    (case mblen => k_is)
    (case iblen => k_is)
    (case lblen => k_is)
    (case cblen => k_is)
    (case kblen => k_is)
    (case mbnames => k_is)
    (case ibnames => k_is)
    (case lbnames => k_is)
    (case cbnames => k_is)
    (case kbnames => k_is)
    (case mbit => k_is)
    (case ibit => k_is)
    (case lbit => k_is)
    (case cbit => k_is)
    (case kbit => k_is)
    (case mbor => k_is)
    (case ibor => k_is)
    (case lbor => k_is)
    (case cbor => k_is)
    (case kbor => k_is)
    (case mdin => k_is)
    (case idin => k_is)
    (case ldin => k_is)
    (case cdin => k_is)
    (case kdin => k_is)
    (case gMd => k_is)
    (case hMd => decide +kernel)
    (case gMp => k_is)
    (case hMp => decide +kernel)
    (case z_dict => k_is)
    (case z_sorted => k_is)
    (case aCN => k_is)
    (case pgN => k_is)
    (case hdN => k_is)
    (case poN => k_is)
    (case saN => k_is)
    (case nN_members => k_is)
    (case mkN => k_is)
    (case kcN => k_is)
    (case haN => k_is)
    (case hmN => k_is)
    (case icN => k_is)
    (case tyN => k_is)
    (case mnin => k_is)
    (case inin => k_is)
    (case lnin => k_is)
    (case cnin => k_is)
    (case knin => k_is)
    (case mnlen => k_is)
    (case inlen => k_is)
    (case lnlen => k_is)
    (case cnlen => k_is)
    (case knlen => k_is)
    (case mnIt => k_is)
    (case inIt => k_is)
    (case lnIt => k_is)
    (case cnIt => k_is)
    (case knIt => k_is)
    (case aCP => k_is)
    (case pgP => k_is)
    (case hdP => k_is)
    (case poP => k_is)
    (case saP => k_is)
    (case nP_machines => k_is)
    (case nP_channels => k_is)
    (case nP_by_channel_name => k_is)
    (case nP_book => k_is)
    (case nP_net => k_is)
    (case mkP => k_is)
    (case kcP => k_is)
    (case haP => k_is)
    (case hmP => k_is)
    (case icP => k_is)
    (case tyP => k_is)
    (case mpin => k_is)
    (case ipin => k_is)
    (case lpin => k_is)
    (case cpin => k_is)
    (case kpin => k_is)
    (case mpdec => k_is)
    (case ipdec => k_is)
    (case lpdec => k_is)
    (case cpdec => k_is)
    (case kpdec => k_is)
    (case gMm => k_is)
    (case hMm => decide +kernel)
    (case gMc => k_is)
    (case hMc => decide +kernel)
    (case aarenames => k_is)
    (case larenames => k_is)
    (case carenames => k_is)
    (case karenames => k_is)
    (case aisseats => k_is)
    (case lisseats => k_is)
    (case cisseats => k_is)
    (case kisseats => k_is)
    (case alim => k_is)
    (case llim => k_is)
    (case clim => k_is)
    (case klim => k_is)
    (case auni => k_is)
    (case luni => k_is)
    (case cuni => k_is)
    (case kuni => k_is)
    (case aops => k_is)
    (case lops => k_is)
    (case cops => k_is)
    (case kops => k_is)
    (case achkC => k_is)
    (case lchkC => k_is)
    (case cchkC => k_is)
    (case kchkC => k_is)
    (case achkP => k_is)
    (case lchkP => k_is)
    (case cchkP => k_is)
    (case kchkP => k_is)
    (case achkN => k_is)
    (case lchkN => k_is)
    (case cchkN => k_is)
    (case kchkN => k_is)
    (case adc => k_is)
    (case ldc => k_is)
    (case cdc => k_is)
    (case kdc => k_is)
    (case anb => k_is)
    (case lnb => k_is)
    (case cnb => k_is)
    (case knb => k_is)
    (case aends => k_is)
    (case lends => k_is)
    (case cends => k_is)
    (case kends => k_is)
    (case achs => k_is)
    (case lchs => k_is)
    (case cchs => k_is)
    (case kchs => k_is)
    (case anum => k_is)
    (case lnum => k_is)
    (case cnum => k_is)
    (case knum => k_is)
    (case fi => k_is)
    (case nqK => k_is)
    (case opK => k_is)
    (case eKC => decide +kernel)
    (case eKD => decide +kernel)
    (case z_iter => k_is)
    (case z_list => k_is)
    (case rdC => k_is)
    (case gaC => k_is)
    (case sstop => k_is)
    (case rstop => k_is)
    (case lststop => k_is)
    (case cststop => k_is)
    (case kststop => k_is)
    (case soffer => k_is)
    (case roffer => k_is)
    (case lstoffer => k_is)
    (case cstoffer => k_is)
    (case kstoffer => k_is)
    (case snew => k_is)
    (case rnew => k_is)
    (case lstnew => k_is)
    (case cstnew => k_is)
    (case kstnew => k_is)
    (case swhen => k_is)
    (case rwhen => k_is)
    (case lstwhen => k_is)
    (case cstwhen => k_is)
    (case kstwhen => k_is)
    (case scall => k_is)
    (case rcall => k_is)
    (case lstcall => k_is)
    (case cstcall => k_is)
    (case kstcall => k_is)
    (case acellat => k_is)
    (case lcellat => k_is)
    (case ccellat => k_is)
    (case kcellat => k_is)
    (case amixed => k_is)
    (case lmixed => k_is)
    (case cmixed => k_is)
    (case kmixed => k_is)
    (case arow => k_is)
    (case lrow => k_is)
    (case crow => k_is)
    (case krow => k_is)
    (case abody => k_is)
    (case lbody => k_is)
    (case cbody => k_is)
    (case kbody => k_is)
    (case aleast => k_is)
    (case lleast => k_is)
    (case cleast => k_is)
    (case kleast => k_is)
    (case alaw => k_is)
    (case llaw => k_is)
    (case claw => k_is)
    (case klaw => k_is)
    (case s23 => k_is)
    (case s43 => k_is)
    (case s42 => k_is)
    (case z_set => k_is)
    (case z_abs => k_is)
    (case z_range => k_is)

