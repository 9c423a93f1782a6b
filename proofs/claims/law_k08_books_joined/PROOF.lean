import PyProof.Rows.All
import Wide.All
import OpenK.AllK
import Wide.FinOn
import KE.DatumOrd
import HandS.Base
import HandS.Call
import HandS.List
import HandS.SortKw
import HandS.ForMost
import HandS.ForExc
import HandS.Evl
import HandS.Walk
import HandS.IsInst
import HandS.Codes
import HandS.Exc
import HandS.ExcOwn
import HandS.ClsMeth
import HandS.Flow
import HandS.Strs
import HandS.TupSets
import PyProof.FString
import KE.KSuper
import KE.KExcSuper
import KE.OsGo
import HandS.ExcField
import HandS.ExcInit
import HandS.ExcValue
import HandS.ExcIs
import KE.KOpsOwn
import KE.KDictPairs
import HandS.Dict
import HandS.More
import PyProof.DictDisplay
import PyProof.DictTable
import PyProof.Rows.StrMeet
import PyProof.Rows.TmSorted
import HandS.OwnEq
import HandS.DictComp
import HandS.TupAny
import HandS.WordsDict
import HandS.Defaults
import PyProof.EqAt
import PyProof.NeKinds
import HandS.WordsExc
import PyProof.EqKinds
import PyProof.TupleCall
import KE.KEqDict
import HandS.Iter
import HandS.DictEq
import PyProof.InstNe
import HandS.Comp
import HandS.TryMany
import KE.Datum
import HandS.Style
import KE.KExcLine
import KE.RegKSuper
import PySem.Challenge.RW_fullseats_k08_books_joined
set_option Elab.async false
set_option linter.all false
set_option maxRecDepth 100000
set_option maxHeartbeats 2000000
/-! max(xs, default=d) of a list of ints -/
namespace FsR
open PySem PySem.Spec PyProof.Rows L2
def maxFrom (y : Int) (ys : List Int) : Int := ys.foldl max y
def maxDef (d : Int) : List Int → Int
  | [] => d
  | y :: ys => maxFrom y ys
theorem maxOf_eq : ∀ (ys : List Int) (y : Int), PySem.W.maxOf y ys = maxFrom y ys
  | [], y => rfl
  | z :: zs, y => by
    have e : (if PySem.W.DatumOrd.lt y z = true then z else y) = max y z := by
      show (if decide (y < z) = true then z else y) = max y z
      by_cases h : y < z
      · rw [if_pos (decide_eq_true h)]; omega
      · rw [if_neg (by simpa using h)]; omega
    have ih := maxOf_eq zs (max y z)
    unfold PySem.W.maxOf maxFrom at *
    rw [List.foldl_cons, List.foldl_cons, e]
    exact ih
theorem readsAll_ints {h : Heap} : ∀ {vs : List Value} {ns : List Int}, IntsAre vs ns → ∃ as, ReadsAll h vs (ns.map PySem.W.Datum.toD) as
  | _, _, .nil => ⟨[], .nil⟩
  | _, _, .cons n t r => by
    obtain ⟨as, z⟩ := readsAll_ints (h := h) r
    exact ⟨[] ++ as, .cons (.int n t) z⟩
/-- max(xs, default=d) -/
def rMaxD (K : PySem.W.Frag) : List V → List V → Hp → VK → Prop := fun xs zs H Q => ∃ (a : Addr) (ns : List Int) (d : Int), xs = [V.ref a] ∧ zs = [V.int d] ∧ SqL K H a (ns.map V.int) ∧ Q (.int (maxDef d ns)) H
theorem ck_maxD {X : Cx} (hc : X.calm = true) (hu : X.A.units + 1 + 1 < cLine) : CallRK X (.builtin "max") ["default"] (rMaxD X.K) := by
  intro pins s σ H xs zs us ws Q I r rz h
  obtain ⟨a, ns, d, rfl, rfl, hs, q⟩ := h
  obtain ⟨its, rv, hl, _⟩ := I.list hs
  rw [Vals.ref1 r]
  cases rz with
  | cons rd rn =>
    cases rn
    obtain ⟨t, rfl⟩ := rd
    have hI := rv.ints
    show wpAny (model X.prog X.w) X.A (call (.builtin "max") [.ref a] [(Str.ofString "default", .int d t)]) _ _ _
    refine PySem.W.max_list_datum_default (α := Int) (xs := ns) (I.ok.hd hc) hl.isList (readsAll_ints hI) (by show X.A.units + 1 + 0 < cLine; omega) (fun e h' tk hk => ?_) (fun y ys i v h' tk e hi hv hk => ?_)
    · subst e
      exact ⟨.int d, H, I.kept hk, ⟨t, rfl⟩, q⟩
    · subst e
      obtain ⟨as, z⟩ := hv
      have z' : ∃ t', v = Value.int (PySem.W.maxOf y ys) t' := by
        have z2 : Reads h' v (.int (PySem.W.maxOf y ys)) as := z
        cases z2 with
        | int _ t' => exact ⟨t', rfl⟩
      obtain ⟨t', rfl⟩ := z'
      refine ⟨.int (PySem.W.maxOf y ys), H, I.kept hk, ⟨t', rfl⟩, ?_⟩
      rw [maxOf_eq]
      exact q
end FsR

set_option Elab.async false
set_option linter.all false
set_option maxRecDepth 100000
set_option maxHeartbeats 2000000
/-! further Ev lemmas -/
namespace FsE
open PySem L2 Evl
section
variable {K : PySem.W.Frag} {σ : L2.St} {H : Hp} {ta tb tc te : TE} {x y z : V}
theorem ev_chain {r r' : R2} {a b : Bool} (ha : Ev ta σ H x) (hb : Ev tb σ H y) (h1 : RV r x y H (.bl a)) (hc : a = true → Ev tc σ H z) (h2 : a = true → RV r' y z H (.bl b)) : Ev (tChain r r' ta tb tc) σ H (.bl (a && b)) := fun H1 e Q q =>
  ha H1 e _ fun H2 e2 => hb H2 (e.trans e2) _ fun H3 e3 => h1 H3 ((e.trans e2).trans e3) _ fun H4 e4 => ⟨a, rfl, by
    cases a with
    | true =>
      show tc σ H4 _
      exact hc rfl H4 (((e.trans e2).trans e3).trans e4) _ fun H5 e5 => h2 rfl H5 ((((e.trans e2).trans e3).trans e4).trans e5) Q fun H6 e6 => q H6 ((((e2.trans e3).trans e4).trans e5).trans e6)
    | false =>
      show Q (.bl false) H4
      exact q H4 ((e2.trans e3).trans e4)⟩
theorem rc_isi {t T : String} {b : Bool} (ht : ∀ H1, Ex H H1 → TyX K H1 x (.type t)) (hk : kitB t T = some b) : RC (rIsi K) [x, .ty T] H (.bl b) := fun H1 e Q q =>
  ⟨x, .ty T, .type t, .type T, b, rfl, .ty T, ht H1 e, kit_ty hk, q H1 (Ex.refl H1)⟩
theorem rc_isStr {z : Str} {T : String} {b : Bool} (hk : kitB "str" T = some b) : RC (rIsi K) [.str z, .ty T] H (.bl b) := rc_isi (fun _ _ => .base (.str z)) hk
theorem rc_isInt {i : Int} {T : String} {b : Bool} (hk : kitB "int" T = some b) : RC (rIsi K) [.int i, .ty T] H (.bl b) := rc_isi (fun _ _ => .base (.int i)) hk
/-- len of a text -/
theorem rc_lenS {z : Str} (hz : z.length ≤ sizeLine) : RC (fun xs H Q => ∃ a, xs = [.str a] ∧ a.length ≤ sizeLine ∧ Q (.int (a.length : Nat)) H) [.str z] H (.int (z.length : Nat)) := fun H1 _ _ q => ⟨z, rfl, hz, q H1 (Ex.refl H1)⟩
theorem rv_inSign {c : Nat} {z : Str} : RV (fun x y H Q => ∃ (c : Nat) (z : Str), x = .str ⟨#[c]⟩ ∧ y = .str z ∧ Q (.bl (decide (c ∈ z.cps.toList))) H) (.str ⟨#[c]⟩) (.str z) H (.bl (decide (c ∈ z.cps.toList))) := fun H1 _ _ q => ⟨c, z, rfl, rfl, q H1 (Ex.refl H1)⟩
theorem rv_niSign {c : Nat} {z : Str} : RV (fun x y H Q => ∃ (c : Nat) (z : Str), x = .str ⟨#[c]⟩ ∧ y = .str z ∧ Q (.bl (!decide (c ∈ z.cps.toList))) H) (.str ⟨#[c]⟩) (.str z) H (.bl (!decide (c ∈ z.cps.toList))) := fun H1 _ _ q => ⟨c, z, rfl, rfl, q H1 (Ex.refl H1)⟩
/-- a comprehension over a text -/
theorem el_lcS {z : Str} {tl : TE} {j : Nat} {vs : List Nat} {t : TT} (f : Nat → Bool) (v : Nat → V) (h : Ev tl σ H (.str z)) (hz : z.cps.size ≤ 40000) (hw : ∀ x, wipe ((wipe σ vs).set j (some x)) vs = wipe σ vs)
    (ht : ∀ (i : Nat) (c : Nat) H1, Ex H H1 → z.cps[i]? = some c → EvT t ((wipe σ vs).set j (some (.str ⟨#[c]⟩))) H1 (f i)) (he : ∀ (i : Nat) (c : Nat) H1, Ex H H1 → z.cps[i]? = some c → f i = true → Ev te ((wipe σ vs).set j (some (.str ⟨#[c]⟩))) H1 (v i)) :
    EvL (tLc (iStr tl) (gName j) t te vs) σ H (given z.cps.size f v) := fun H0 e Q q => h H0 e _ fun H1 e1 => ⟨z, rfl, fun Dl hD =>
  lc_it walk_str (Cw H1 f v Dl) ⟨hD, Ex.new hD, upd_same⟩ (fun _ _ _ _ => trivial) (fun i x H' H2 hi p y => by
    obtain ⟨rfl, c, hc, rfl⟩ := y
    exact ⟨hw _, cw_turn p (by omega) (ht i c H1 (e.trans e1) hc) (fun hf => he i c H1 (e.trans e1) hc hf)⟩)
    (fun H' p => q Dl H' (fresh_back e1 p.1) (e1.trans p.2.1) p.2.2)⟩
/-- all of a new list of bools -/
theorem ev_all {bs : List Bool} (h : EvL te σ H (bs.map V.bl)) : Ev (tCB (rAll K) (tCons te tNil)) σ H (.bl (bs.all id)) := fun H1 e Q q =>
  h H1 e _ fun p H2 _ e2 hp => ⟨p, bs, rfl, sq_of hp, q H2 e2⟩
/-- given, no test -/
theorem given_all {n : Nat} {v : Nat → V} : given n (fun _ => true) v = (List.range n).map v := by
  unfold given
  rw [List.filter_eq_self.mpr (fun _ _ => rfl)]
theorem et_nil : EvT tYes σ H true := fun H1 _ _ q => q H1 (Ex.refl H1)
theorem range_map {α : Type} (xs : List α) (d : α) (v : α → V) : (List.range xs.length).map (fun i => v (xs.getD i d)) = xs.map v := by
  refine List.ext_getElem? fun i => ?_
  rw [List.getElem?_map, List.getElem?_map]
  by_cases hi : i < xs.length
  · rw [List.getElem?_range hi, List.getElem?_eq_getElem hi]
    show some (v (xs.getD i d)) = some (v xs[i])
    rw [List.getD_eq_getElem?_getD, List.getElem?_eq_getElem hi]
    rfl
  · rw [List.getElem?_eq_none (by rw [List.length_range]; omega), List.getElem?_eq_none (by omega)]
    rfl
/-- [e for c in text] -/
theorem el_lcSm {z : Str} {tl : TE} {j : Nat} {vs : List Nat} (v : Nat → V) (h : Ev tl σ H (.str z)) (hz : z.length ≤ 40000) (hw : ∀ x, wipe ((wipe σ vs).set j (some x)) vs = wipe σ vs)
    (he : ∀ (c : Nat) H1, Ex H H1 → c ∈ z.cps.toList → Ev te ((wipe σ vs).set j (some (.str ⟨#[c]⟩))) H1 (v c)) : EvL (tLc (iStr tl) (gName j) tYes te vs) σ H (z.cps.toList.map v) := by
  have g := el_lcS (te := te) (j := j) (vs := vs) (t := tYes) (fun _ => true) (fun i => v (z.cps.toList.getD i 0)) h hz hw (fun _ _ _ _ _ => et_nil) (fun i c H3 e hc _ => by
    have e1 : z.cps.toList.getD i 0 = c := by
      rw [List.getD_eq_getElem?_getD, Array.getElem?_toList, hc]
      rfl
    rw [e1]
    exact he c H3 e (by rw [List.mem_iff_getElem?]; exact ⟨i, by rw [Array.getElem?_toList, hc]⟩))
  rw [given_all] at g
  have e := range_map z.cps.toList 0 v
  rw [Array.length_toList] at e
  rw [e] at g
  exact g
/-- [e for x in list] -/
theorem el_lcLm {a : Addr} {xs : List V} {tl : TE} {j : Nat} {vs : List Nat} (v : V → V) (h : Ev tl σ H (.ref a)) (hx : SqL K H a xs) (hz : xs.length ≤ 40000) (hw : ∀ x, wipe ((wipe σ vs).set j (some x)) vs = wipe σ vs)
    (he : ∀ (x : V) H1, Ex H H1 → x ∈ xs → Ev te ((wipe σ vs).set j (some x)) H1 (v x)) : EvL (tLc (iList K tl) (gName j) tYes te vs) σ H (xs.map v) := by
  have g := el_lcL (K := K) (te := te) (j := j) (vs := vs) (t := tYes) (fun _ => true) (fun i => v (xs.getD i .non)) h hx hz hw (fun _ _ _ _ _ => et_nil) (fun i x H3 e hc _ => by
    have e1 : xs.getD i .non = x := by
      rw [List.getD_eq_getElem?_getD, hc]
      rfl
    rw [e1]
    exact he x H3 e (List.mem_iff_getElem?.mpr ⟨i, hc⟩))
  rw [given_all, range_map xs .non v] at g
  exact g
/-- [e for x in (a new list)] -/
theorem el_lcNLm {xs : List V} {tl : TE} {j : Nat} {vs : List Nat} (v : V → V) (h : EvL tl σ H xs) (hz : xs.length ≤ 40000) (hw : ∀ x, wipe ((wipe σ vs).set j (some x)) vs = wipe σ vs)
    (he : ∀ (x : V) H1, Ex H H1 → x ∈ xs → Ev te ((wipe σ vs).set j (some x)) H1 (v x)) : EvL (tLc (iList K tl) (gName j) tYes te vs) σ H (xs.map v) := by
  have g := el_lcNL (K := K) (te := te) (j := j) (vs := vs) (t := tYes) (fun _ => true) (fun i => v (xs.getD i .non)) h hz hw (fun _ _ _ _ _ => et_nil) (fun i x H3 e hc _ => by
    have e1 : xs.getD i .non = x := by
      rw [List.getD_eq_getElem?_getD, hc]
      rfl
    rw [e1]
    exact he x H3 e (List.mem_iff_getElem?.mpr ⟨i, hc⟩))
  rw [given_all, range_map xs .non v] at g
  exact g
/-- [e for k in range(n)] -/
theorem el_lcRm {tn : TA} {j : Nat} {vs : List Nat} {n : Int} (v : Nat → V) (h : EvA tn σ H [.int n]) (hn : 0 ≤ n ∧ n ≤ 40000) (hw : ∀ x, wipe ((wipe σ vs).set j (some x)) vs = wipe σ vs)
    (he : ∀ (i : Nat) H1, Ex H H1 → (i : Int) < n → Ev te ((wipe σ vs).set j (some (.int (i : Int)))) H1 (v i)) : EvL (tLc (iRng1 tn) (gName j) tYes te vs) σ H ((List.range n.toNat).map v) := by
  have g := el_lcR1 (te := te) (j := j) (vs := vs) (t := tYes) (fun _ => true) v h hn hw (fun _ _ _ _ => et_nil) (fun i H1 e hi _ => he i H1 e hi)
  rw [given_all] at g
  exact g
/-- a comprehension over a tuple -/
theorem el_lcT {a : Addr} {xs : List V} {tl : TE} {j : Nat} {vs : List Nat} {t : TT} (f : Nat → Bool) (v : Nat → V) (h : Ev tl σ H (.ref a)) (hx : SqT K H a xs) (hz : xs.length ≤ 40000) (hw : ∀ x, wipe ((wipe σ vs).set j (some x)) vs = wipe σ vs)
    (ht : ∀ (i : Nat) (x : V) H1, Ex H H1 → xs[i]? = some x → EvT t ((wipe σ vs).set j (some x)) H1 (f i)) (he : ∀ (i : Nat) (x : V) H1, Ex H H1 → xs[i]? = some x → f i = true → Ev te ((wipe σ vs).set j (some x)) H1 (v i)) :
    EvL (tLc (iTup K tl) (gName j) t te vs) σ H (given xs.length f v) := fun H0 e Q q => h H0 e _ fun H1 e1 => ⟨a, rfl, ⟨xs, ex_t (e.trans e1) hx⟩, fun Dl hD =>
  lc_tup (xs := xs) (Cw H1 f v Dl) ⟨hD, Ex.new hD, upd_same⟩ (fun i H' _ p => ex_t ((e.trans e1).trans p.2.1) hx) (fun i x H' hi p => ⟨hw x, cw_turn p (by have := (List.getElem?_eq_some_iff.mp hi).1; omega) (ht i x H1 (e.trans e1) hi) (fun hf => he i x H1 (e.trans e1) hi hf)⟩)
    (fun H' p => q Dl H' (fresh_back e1 p.1) (e1.trans p.2.1) p.2.2)⟩
theorem ev_fld {a C dx : Addr} {fs : List (Str × V)} {f : Str} {v : V} (h : Ev ta σ H (.ref a)) (hi : H a = some (.ins C dx fs)) (cl : Cls K C) (n : NoAttr K C f) (l : fs.lookup f = some v) : Ev (tFld K ta f) σ H v := fun H1 e Q q =>
  h H1 e _ fun H2 e2 => ⟨a, C, dx, fs, v, rfl, (e.trans e2) _ _ hi, cl, n, l, q H2 e2⟩
theorem ev_sum {ns : List Int} (h : EvL te σ H (ns.map V.int)) : Ev (tCB (rSum K) (tCons te tNil)) σ H (.int ns.sum) := fun H1 e Q q =>
  h H1 e _ fun p H2 _ e2 hp => ⟨p, ns, rfl, sq_of hp, q H2 e2⟩
theorem ev_maxD {ns : List Int} {d : Int} (h : EvL te σ H (ns.map V.int)) : Ev (tCKw (FsR.rMaxD K) (tCons te tNil) (tCons (tC (.int d)) tNil)) σ H (.int (FsR.maxDef d ns)) := fun H1 e Q q =>
  h H1 e _ fun p H2 _ e2 hp => ⟨p, ns, d, rfl, rfl, sq_of hp, q H2 e2⟩
theorem ev_lenT {a : Addr} {xs : List V} (h : Ev ta σ H (.ref a)) (hx : SqT K H a xs) : Ev (tCB (fun xs H Q => ∃ p ys, xs = [V.ref p] ∧ (SqL K H p ys ∨ SqT K H p ys) ∧ Q (.int ys.length) H) (tCons ta tNil)) σ H (.int (xs.length : Int)) := fun H1 e Q q =>
  h H1 e _ fun H2 e2 => ⟨a, xs, rfl, .inr (ex_t (e.trans e2) hx), q H2 e2⟩
theorem rc_isiOwn {C : Addr} {t : Value} {b : Bool} (ht : ∀ H1, Ex H H1 → TyX K H1 x t) (hk : PySem.W.kitOne K t (.ref C) = some b) : RC (rIsi K) [x, .ref C] H (.bl b) := fun H1 e Q q =>
  ⟨x, .ref C, t, .ref C, b, rfl, .own C, ht H1 e, hk, q H1 (Ex.refl H1)⟩
theorem range_ys {xs ys : List V} (hl : ys.length = xs.length) : (List.range xs.length).map (fun i => ys.getD i .non) = ys := by
  have e := range_map ys .non (fun y => y)
  rw [List.map_id', hl] at e
  exact e
/-- comprehensions, the result told by its items -/
theorem el_lcNLy {xs ys : List V} {tl : TE} {j : Nat} {vs : List Nat} (h : EvL tl σ H xs) (hz : xs.length ≤ 40000) (hw : ∀ x, wipe ((wipe σ vs).set j (some x)) vs = wipe σ vs) (hl : ys.length = xs.length)
    (he : ∀ (i : Nat) (x y : V) H1, Ex H H1 → xs[i]? = some x → ys[i]? = some y → Ev te ((wipe σ vs).set j (some x)) H1 y) : EvL (tLc (iList K tl) (gName j) tYes te vs) σ H ys := by
  have g := el_lcNL (K := K) (te := te) (j := j) (vs := vs) (t := tYes) (fun _ => true) (fun i => ys.getD i .non) h hz hw (fun _ _ _ _ _ => et_nil) (fun i x H3 e hc _ => by
    have hi := (List.getElem?_eq_some_iff.mp hc).1
    have hy : ys[i]? = some (ys.getD i .non) := by rw [List.getD_eq_getElem?_getD, List.getElem?_eq_getElem (by omega)]; rfl
    exact he i x _ H3 e hc hy)
  rw [given_all, range_ys hl] at g
  exact g
theorem el_lcLy {a : Addr} {xs ys : List V} {tl : TE} {j : Nat} {vs : List Nat} (h : Ev tl σ H (.ref a)) (hx : SqL K H a xs) (hz : xs.length ≤ 40000) (hw : ∀ x, wipe ((wipe σ vs).set j (some x)) vs = wipe σ vs) (hl : ys.length = xs.length)
    (he : ∀ (i : Nat) (x y : V) H1, Ex H H1 → xs[i]? = some x → ys[i]? = some y → Ev te ((wipe σ vs).set j (some x)) H1 y) : EvL (tLc (iList K tl) (gName j) tYes te vs) σ H ys := by
  have g := el_lcL (K := K) (te := te) (j := j) (vs := vs) (t := tYes) (fun _ => true) (fun i => ys.getD i .non) h hx hz hw (fun _ _ _ _ _ => et_nil) (fun i x H3 e hc _ => by
    have hi := (List.getElem?_eq_some_iff.mp hc).1
    have hy : ys[i]? = some (ys.getD i .non) := by rw [List.getD_eq_getElem?_getD, List.getElem?_eq_getElem (by omega)]; rfl
    exact he i x _ H3 e hc hy)
  rw [given_all, range_ys hl] at g
  exact g
theorem el_lcTy {a : Addr} {xs ys : List V} {tl : TE} {j : Nat} {vs : List Nat} (h : Ev tl σ H (.ref a)) (hx : SqT K H a xs) (hz : xs.length ≤ 40000) (hw : ∀ x, wipe ((wipe σ vs).set j (some x)) vs = wipe σ vs) (hl : ys.length = xs.length)
    (he : ∀ (i : Nat) (x y : V) H1, Ex H H1 → xs[i]? = some x → ys[i]? = some y → Ev te ((wipe σ vs).set j (some x)) H1 y) : EvL (tLc (iTup K tl) (gName j) tYes te vs) σ H ys := by
  have g := el_lcT (K := K) (te := te) (j := j) (vs := vs) (t := tYes) (fun _ => true) (fun i => ys.getD i .non) h hx hz hw (fun _ _ _ _ _ => et_nil) (fun i x H3 e hc _ => by
    have hi := (List.getElem?_eq_some_iff.mp hc).1
    have hy : ys[i]? = some (ys.getD i .non) := by rw [List.getD_eq_getElem?_getD, List.getElem?_eq_getElem (by omega)]; rfl
    exact he i x _ H3 e hc hy)
  rw [given_all, range_ys hl] at g
  exact g
end
end FsE

set_option Elab.async false
set_option linter.all false
set_option maxRecDepth 100000
set_option maxHeartbeats 2000000
/-! A staticmethod that is called off its class. -/
namespace FsR
open PySem PySem.Spec PyProof.Rows L2 ClX
structure SMet (K : PySem.W.Frag) (C : Addr) (mc : Value) (m : Str) (p g : Addr) : Prop where
  at_ : PySem.W.findCls K (.ref C) mc m = some (.get (.builtin "staticmethod.__get__") (.ref p) .none (.ref C))
  rc : ∃ rest, PySem.W.recIn K p "staticmethod" = some (.ref g :: rest)
  kp : PySem.W.keepIn K (.ref g) = true
section
variable {X : Cx} {pins : List (Addr × Obj)} {σ : L2.St} {H : Hp} {s : Shared} {C p g : Addr} {mc : Value} {m : Str} {A : Around} {E : Value → Shared → Prop}
theorem getmethsm_ok {pl : Sem Bool} {Q : Value × List Value → Shared → Prop} (I : Inv X pins σ H s) (r : CRead X.K C mc) (k : SMet X.K C mc m p g)
    (h : ∀ s', Inv X pins σ H s' → Q (.ref g, []) s') : wpAny (model X.prog X.w) A (getMethod (.ref C) m pl) Q E s := by
  obtain ⟨rest, hp⟩ := k.rc
  exact PySem.W.method_cls I.kIn r.ga (PySem.W.cls_bind I.kIn r.rd k.at_ (wpAny_call (PySem.W.sm_get (s := { s with toks := s.toks + 1 }) I.kIn hp (PySem.W.handed_on rfl (h _ (I.tok _))))))
end
/-- C.m(..), e the class at C, m a staticmethod; E: what is wanted of what it raises, at the slots -/
def tStat (C : Addr) (sp : Sp) (E : L2.St → XK) (ta : TE) (t : TA) : TE := fun σ H Q => ta σ H fun x H1 => x = .ref C ∧ t σ H1 fun vs H2 => sp vs H2 Q (E σ)
theorem passesAt_of {CX : CXT} {X : Cx} {E : XK} (h : Passes CX X E) (σ : L2.St) : PassesAt CX X σ E := fun pins H s e s' I c => h pins σ H s e s' I c
section
variable {X : Cx} {CX : CXT} {k : Nat} {C p g : Addr} {mc : Value} {fd : FuncData} {ps : List Str} {sp : Sp} {E : L2.St → XK} {o e : Expr} {es : List Expr} {m : Str} {pos apos : Pos} {ta : TE} {t : TA} {pl : Sem Bool}
theorem pe_stat (he : PE X o ta) (r : CRead X.K C mc) (c : SMet X.K C mc m p g) (F : FnOk X.prog X.w X.K X.mg X.base CX k g fd ps sp) (hr : Room k X.A) (hb : Binds X.K fd ps []) (hx : ∀ σ, PassesAt CX X σ (E σ)) (ha : PA X (e :: es) t)
    (hst : starEach (e :: es) X.env = (false, eval e X.env) :: starEach es X.env := by rfl) (hpl : (backTo pos (starEach es X.env)).any (·.1) = false := by rfl)
    (ht : eval (.Call (.Attribute o m apos) (e :: es) [] pos) X.env = (do
      let ov ← eval o X.env
      standAt apos.atName
      let (f, first) ← holding [ov] (getMethod ov m pl)
      callWith pos f first (backTo pos (starEach (e :: es) X.env)) (backToKw pos (keywordEach [] X.env))) := by rfl) :
    PE X (.Call (.Attribute o m apos) (e :: es) [] pos) (tStat C sp E ta t) := by
  refine ⟨fun pins s σ H Q I h => ?_⟩
  refine PySem.W.methodCall_KW (pl := pl) (thn (he.run pins s σ H _ I h) fun u s1 ⟨x, H1, I1, rx, ex, q⟩ => ?_) ht
  subst ex
  obtain rfl : u = Value.ref C := rx
  refine getmethsm_ok I1 r c fun s2 I2 => ?_
  refine PySem.W.callWith_K (first := []) (h₀ := X.base) I.ok.mod.kin c.kp (thn (ha.run pos pins s2 σ H1 _ I2 q) fun us s3 ⟨vs, H2, I3, rv, q2⟩ => ⟨I3.kIn, ?_⟩) hst hpl
  exact run_fnS F hr hb (hx σ) I3 rv q2
theorem pe_stat0 (he : PE X o ta) (r : CRead X.K C mc) (c : SMet X.K C mc m p g) (F : FnOk X.prog X.w X.K X.mg X.base CX k g fd ps sp) (hr : Room k X.A) (hb : Binds X.K fd ps []) (hx : ∀ σ, PassesAt CX X σ (E σ))
    (ht : eval (.Call (.Attribute o m apos) [] [] pos) X.env = (do
      let ov ← eval o X.env
      standAt apos.atName
      let (f, first) ← holding [ov] (getMethod ov m pl)
      callWith pos f first (backTo pos (starEach [] X.env)) (backToKw pos (keywordEach [] X.env))) := by rfl) :
    PE X (.Call (.Attribute o m apos) [] [] pos) (tStat C sp E ta tNil) := by
  refine ⟨fun pins s σ H Q I h => ?_⟩
  refine PySem.W.methodCall_KW (pl := pl) (thn (he.run pins s σ H _ I h) fun u s1 ⟨x, H1, I1, rx, ex, q⟩ => ?_) ht
  subst ex
  obtain rfl : u = Value.ref C := rx
  refine getmethsm_ok I1 r c fun s2 I2 => ?_
  exact PySem.W.callWith_K0 (first := []) I2.kIn c.kp (run_fnS (us := []) (vs := []) F hr hb (hx σ) I2 .nil q)
end
end FsR

set_option Elab.async false
set_option linter.all false
set_option maxRecDepth 100000
set_option maxHeartbeats 2000000
namespace FsC
open PySem L2 Evl ClX FsR
/-- a def of the module that may be called by its name -/
structure CalX (P : Program) (w : World) (K : PySem.W.Frag) (mg : Str → Option Value) (base : Heap) (CX : CXT) (k : Nat) (x : Str) (sp : Sp) : Prop where
  ex : ∃ (f : Addr) (fd : FuncData) (ps : List Str), FnOk P w K mg base CX k f fd ps sp ∧ mg x = some (.ref f) ∧ PySem.W.keepIn K (.ref f) = true ∧ Binds K fd ps []
/-- C.m, a staticmethod of the class at C -/
structure StaX (P : Program) (w : World) (K : PySem.W.Frag) (mg : Str → Option Value) (base : Heap) (CX : CXT) (k : Nat) (C : Addr) (m : Str) (sp : Sp) : Prop where
  ex : ∃ (p f : Addr) (mc : Value) (fd : FuncData) (ps : List Str), CRead K C mc ∧ SMet K C mc m p f ∧ FnOk P w K mg base CX k f fd ps sp ∧ Binds K fd ps []
/-- C(..): a class that is made by its name -/
structure MakX (P : Program) (w : World) (K : PySem.W.Frag) (mg : Str → Option Value) (base : Heap) (CX : CXT) (k : Nat) (x : Str) (C : Addr) (sp : Sp) : Prop where
  ex : ∃ (f : Addr) (fd : FuncData) (ps : List Str), Mk K C f ∧ FnOk P w K mg base CX k f fd ps sp ∧ mg x = some (.ref C) ∧ Binds K fd ps []
section
variable {X : Cx} {CX : CXT} {k j : Nat} {C : Addr} {x m : Str} {sp : Sp} {E : L2.St → XK} {p pos apos : Pos} {e o : Expr} {es : List Expr} {ta : TE} {t : TA}
theorem pe_cx (c : CalX X.prog X.w X.K X.mg X.base CX k x sp) (hr : Room j X.A) (hk : k ≤ j) (hg : Gl X x) (hx : ∀ σ, PassesAt CX X σ (E σ)) (ha : PA X (e :: es) t)
    (hdb : (x == ("__debug__" : Str)) = false := by decide) (he : starEach (e :: es) X.env = (false, eval e X.env) :: starEach es X.env := by rfl) (hpl : (backTo pos (starEach es X.env)).any (·.1) = false := by rfl) :
    PE X (.Call (.Name x p) (e :: es) [] pos) (tCallS sp E t) := by
  obtain ⟨f, fd, ps, F, hm, kp, b⟩ := c.ex
  exact pe_callS F (hr.mono hk) hg hm kp b hx ha hdb he hpl
theorem pe_sx {pl : Sem Bool} (c : StaX X.prog X.w X.K X.mg X.base CX k C m sp) (hr : Room j X.A) (hk : k ≤ j) (ho : PE X o ta) (hx : ∀ σ, PassesAt CX X σ (E σ)) (ha : PA X (e :: es) t)
    (hst : starEach (e :: es) X.env = (false, eval e X.env) :: starEach es X.env := by rfl) (hpl : (backTo pos (starEach es X.env)).any (·.1) = false := by rfl)
    (ht : eval (.Call (.Attribute o m apos) (e :: es) [] pos) X.env = (do
      let ov ← eval o X.env
      standAt apos.atName
      let (f, first) ← holding [ov] (getMethod ov m pl)
      callWith pos f first (backTo pos (starEach (e :: es) X.env)) (backToKw pos (keywordEach [] X.env))) := by rfl) :
    PE X (.Call (.Attribute o m apos) (e :: es) [] pos) (tStat C sp E ta t) := by
  obtain ⟨p, f, mc, fd, ps, r, s, F, b⟩ := c.ex
  exact pe_stat (pl := pl) ho r s F (hr.mono hk) b hx ha hst hpl ht
theorem pe_sx0 {pl : Sem Bool} (c : StaX X.prog X.w X.K X.mg X.base CX k C m sp) (hr : Room j X.A) (hk : k ≤ j) (ho : PE X o ta) (hx : ∀ σ, PassesAt CX X σ (E σ))
    (ht : eval (.Call (.Attribute o m apos) [] [] pos) X.env = (do
      let ov ← eval o X.env
      standAt apos.atName
      let (f, first) ← holding [ov] (getMethod ov m pl)
      callWith pos f first (backTo pos (starEach [] X.env)) (backToKw pos (keywordEach [] X.env))) := by rfl) :
    PE X (.Call (.Attribute o m apos) [] [] pos) (tStat C sp E ta tNil) := by
  obtain ⟨p, f, mc, fd, ps, r, s, F, b⟩ := c.ex
  exact pe_stat0 (pl := pl) ho r s F (hr.mono hk) b hx ht
theorem pe_mx {E : XK} (c : MakX X.prog X.w X.K X.mg X.base CX k x C sp) (hr : Room j X.A) (hk : k + 1 ≤ j) (hg : Gl X x) (hx : Passes CX X E) (ha : PA X (e :: es) t)
    (hdb : (x == ("__debug__" : Str)) = false := by decide) (he : starEach (e :: es) X.env = (false, eval e X.env) :: starEach es X.env := by rfl) (hpl : (backTo pos (starEach es X.env)).any (·.1) = false := by rfl) :
    PE X (.Call (.Name x p) (e :: es) [] pos) (tMake C sp [] E t) := by
  obtain ⟨f, fd, ps, M, F, hm, b⟩ := c.ex
  exact pe_make M F (hr.mono hk) hg hm b .nil hx ha hdb he hpl
theorem at0 {X : Cx} {E : L2.St → XK} : ∀ σ, PassesAt CX0 X σ (E σ) := fun _ _ _ _ _ _ _ h => h.elim
/-- what a call within a def that may raise lets out -/
theorem atX {P : Program} {w : World} {X : Cx} {E : XK} (h : Passes (L2.CX P w) X E) : ∀ σ, PassesAt (L2.CX P w) X σ ((fun _ => E) σ) := fun σ => passesAt_of h σ
end
section
variable {σ : L2.St} {H : Hp} {z : V} {sp : Sp} {ta : TA} {vs : List V} {E : L2.St → XK}
theorem ev_cx (h : EvA ta σ H vs) (hs : SpV sp vs H z) : Ev (tCallS sp E ta) σ H z := fun H1 e Q q =>
  h H1 e _ fun H2 e2 => hs H2 (e.trans e2) Q (fun H3 e3 => q H3 (e2.trans e3)) (E σ)
theorem ev_sx {C : Addr} {to : TE} (ho : Ev to σ H (.ref C)) (h : EvA ta σ H vs) (hs : SpV sp vs H z) : Ev (tStat C sp E to ta) σ H z := fun H1 e Q q =>
  ho H1 e _ fun H2 e2 => ⟨rfl, h H2 (e.trans e2) _ fun H3 e3 => hs H3 ((e.trans e2).trans e3) Q (fun H4 e4 => q H4 ((e2.trans e3).trans e4)) (E σ)⟩
theorem el_cx {xs : List V} (h : EvA ta σ H vs) (hs : SpL sp vs H xs) : EvL (tCallS sp E ta) σ H xs := fun H1 e Q q =>
  h H1 e _ fun H2 e2 => hs H2 (e.trans e2) Q (fun p H3 hp e3 h3 => q p H3 (fresh_back e2 hp) (e2.trans e3) h3) (E σ)
end
end FsC

set_option Elab.async false
set_option linter.all false
set_option maxRecDepth 100000
set_option maxHeartbeats 2000000
namespace Fs
open PySem L2 Evl
/-! ### operands, processes, offers -/
inductive Opd where
  | int (i : Int)
  | nm (z : Str)
def Opd.v : Opd → V
  | .int i => .int i
  | .nm z => .str z
mutual
inductive Pr where
  | choice (os : Ofs)
  | new (n : Str) (k : Int) (r : Pr)
  | cond (l r : Opd) (y n : Pr)
  | call (n : Str) (ops : List Opd)
inductive Ofs where
  | nil
  | cons (c : Str) (seat seats : Int) (op : Opd) (names : List Str) (rest : Pr) (os : Ofs)
end
mutual
def Pr.depth : Pr → Int
  | .choice os => 1 + os.depth
  | .new _ _ r => 1 + r.depth
  | .cond _ _ y n => 1 + max y.depth n.depth
  | .call _ _ => 1
def Ofs.depth : Ofs → Int
  | .nil => 0
  | .cons _ _ _ _ _ r os => max r.depth os.depth
end
def Ofs.len : Ofs → Nat
  | .nil => 0
  | .cons _ _ _ _ _ _ os => os.len + 1
mutual
def Pr.size : Pr → Int
  | .choice os => max 1 (os.len : Int) + os.sum
  | .new _ _ r => 1 + r.size
  | .cond _ _ y n => 1 + (y.size + n.size)
  | .call _ _ => 1
def Ofs.sum : Ofs → Int
  | .nil => 0
  | .cons _ _ _ _ _ r os => r.size + os.sum
end
def Pr.kind : Pr → Str
  | .choice _ => "choice"
  | .new _ _ _ => "new"
  | .cond _ _ _ _ => "if"
  | .call _ _ => "call"
/-- the attributes, in the order in which __init__ stores them -/
def pFlds (k : Str) (t : Addr) (d z : Int) : List (Str × V) := putF "size" (.int z) (putF "depth" (.int d) (putF "parts" (.ref t) (putF "kind" (.str k) [])))
theorem n1 : ¬ (("kind" : Str) = "parts") := by decide +kernel
theorem n2 : ¬ (("kind" : Str) = "depth") := by decide +kernel
theorem n3 : ¬ (("kind" : Str) = "size") := by decide +kernel
theorem n4 : ¬ (("parts" : Str) = "depth") := by decide +kernel
theorem n5 : ¬ (("parts" : Str) = "size") := by decide +kernel
theorem n6 : ¬ (("depth" : Str) = "size") := by decide +kernel
theorem pf_kind {k : Str} {t : Addr} {d z : Int} : (pFlds k t d z).lookup ("kind" : Str) = some (.str k) := by
  unfold pFlds
  rw [lookup_putF, if_neg n3, lookup_putF, if_neg n2, lookup_putF, if_neg n1, lookup_putF, if_pos rfl]
theorem pf_parts {k : Str} {t : Addr} {d z : Int} : (pFlds k t d z).lookup ("parts" : Str) = some (.ref t) := by
  unfold pFlds
  rw [lookup_putF, if_neg n5, lookup_putF, if_neg n4, lookup_putF, if_pos rfl]
theorem pf_depth {k : Str} {t : Addr} {d z : Int} : (pFlds k t d z).lookup ("depth" : Str) = some (.int d) := by
  unfold pFlds
  rw [lookup_putF, if_neg n6, lookup_putF, if_pos rfl]
theorem pf_size {k : Str} {t : Addr} {d z : Int} : (pFlds k t d z).lookup ("size" : Str) = some (.int z) := by
  unfold pFlds
  rw [lookup_putF, if_pos rfl]
/-- an instance of the class at C with these parts -/
def InsAt (C : Addr) (H : Hp) (a : Addr) (k : Str) (t : Addr) (d z : Int) : Prop := ∃ dx, H a = some (.ins C dx (pFlds k t d z))
mutual
/-- at a stands the process p -/
def PrAt (C : Addr) (H : Hp) (a : Addr) : Pr → Prop
  | .choice os => ∃ t ps, InsAt C H a "choice" t (1 + os.depth) (max 1 (os.len : Int) + os.sum) ∧ H t = some (.tup ps) ∧ OfsAt C H ps os
  | .new n k r => ∃ t b, InsAt C H a "new" t (1 + r.depth) (1 + r.size) ∧ H t = some (.tup [.str n, .int k, .ref b]) ∧ PrAt C H b r
  | .cond l r y n => ∃ t b c, InsAt C H a "if" t (1 + max y.depth n.depth) (1 + (y.size + n.size)) ∧ H t = some (.tup [l.v, r.v, .ref b, .ref c]) ∧ PrAt C H b y ∧ PrAt C H c n
  | .call n ops => ∃ t u, InsAt C H a "call" t 1 1 ∧ H t = some (.tup [.str n, .ref u]) ∧ H u = some (.tup (ops.map Opd.v))
def OfsAt (C : Addr) (H : Hp) (ps : List V) : Ofs → Prop
  | .nil => ps = []
  | .cons c s m op ns r os => ∃ o u b qs, ps = .ref o :: qs ∧ H o = some (.tup [.str c, .int s, .int m, op.v, .ref u, .ref b]) ∧ H u = some (.tup (ns.map V.str)) ∧ PrAt C H b r ∧ OfsAt C H qs os
end
theorem InsAt.ex {C : Addr} {H H' : Hp} {a : Addr} {k : Str} {t : Addr} {d z : Int} (e : Ex H H') (h : InsAt C H a k t d z) : InsAt C H' a k t d z := by
  obtain ⟨dx, h⟩ := h
  exact ⟨dx, e _ _ h⟩
mutual
theorem PrAt.ex {C : Addr} {H H' : Hp} (e : Ex H H') : ∀ {p : Pr} {a : Addr}, PrAt C H a p → PrAt C H' a p
  | .choice os, a, h => by
    unfold PrAt at h ⊢
    obtain ⟨t, ps, h1, h2, h3⟩ := h
    exact ⟨t, ps, h1.ex e, e _ _ h2, OfsAt.ex e h3⟩
  | .new n k r, a, h => by
    unfold PrAt at h ⊢
    obtain ⟨t, b, h1, h2, h3⟩ := h
    exact ⟨t, b, h1.ex e, e _ _ h2, PrAt.ex e h3⟩
  | .cond l r y n, a, h => by
    unfold PrAt at h ⊢
    obtain ⟨t, b, c, h1, h2, h3, h4⟩ := h
    exact ⟨t, b, c, h1.ex e, e _ _ h2, PrAt.ex e h3, PrAt.ex e h4⟩
  | .call n ops, a, h => by
    unfold PrAt at h ⊢
    obtain ⟨t, u, h1, h2, h3⟩ := h
    exact ⟨t, u, h1.ex e, e _ _ h2, e _ _ h3⟩
theorem OfsAt.ex {C : Addr} {H H' : Hp} (e : Ex H H') : ∀ {os : Ofs} {ps : List V}, OfsAt C H ps os → OfsAt C H' ps os
  | .nil, ps, h => by
    unfold OfsAt at h ⊢
    exact h
  | .cons c s m op ns r os, ps, h => by
    unfold OfsAt at h ⊢
    obtain ⟨o, u, b, qs, h1, h2, h3, h4, h5⟩ := h
    exact ⟨o, u, b, qs, h1, e _ _ h2, e _ _ h3, PrAt.ex e h4, OfsAt.ex e h5⟩
end
/-- whatever the process: its instance -/
theorem PrAt.ins {C : Addr} {H : Hp} {p : Pr} {a : Addr} (h : PrAt C H a p) : ∃ t ps, InsAt C H a p.kind t p.depth p.size ∧ H t = some (.tup ps) := by
  cases p with
  | choice os =>
    unfold PrAt at h
    obtain ⟨t, ps, h1, h2, _⟩ := h
    exact ⟨t, ps, by unfold Pr.kind Pr.depth Pr.size; exact h1, h2⟩
  | new n k r =>
    unfold PrAt at h
    obtain ⟨t, b, h1, h2, _⟩ := h
    exact ⟨t, _, by unfold Pr.kind Pr.depth Pr.size; exact h1, h2⟩
  | cond l r y n =>
    unfold PrAt at h
    obtain ⟨t, b, c, h1, h2, _⟩ := h
    exact ⟨t, _, by unfold Pr.kind Pr.depth Pr.size; exact h1, h2⟩
  | call n ops =>
    unfold PrAt at h
    obtain ⟨t, u, h1, h2, _⟩ := h
    exact ⟨t, _, by unfold Pr.kind Pr.depth Pr.size; exact h1, h2⟩
end Fs

set_option Elab.async false
set_option linter.all false
set_option maxRecDepth 100000
set_option maxHeartbeats 2000000
namespace Fs
open PySem L2 Evl FsE FsC
def topS (i : Nat) : Stmt := PySem.Challenge.pw_fullseats_k08_books_joined.main.body.getD i (.Pass ⟨0, 0, 0, 0⟩)
/-! ### names -/
def lettersS : Str := "abcdefghijklmnopqrstuvwxyz"
def digitsS : Str := "0123456789"
def reservedV : List V := [.str "stop", .str "new", .str "if", .str "then", .str "else", .str "put", .str "get", .str "channel", .str "at", .str "define", .str "start"]
def signOk (c : Nat) : Bool := decide (c ∈ lettersS.cps.toList) || decide (c ∈ digitsS.cps.toList)
def nameS (z : Str) : Bool := decide (1 ≤ z.length) && decide (z.length ≤ 8) && decide (z.cps.toList.headD 0 ∈ lettersS.cps.toList) && !inV (.str z) reservedV && z.cps.toList.all signOk
def nameV : V → Bool
  | .str z => nameS z
  | _ => false
/-- an operand's kind of value: an int, or a text of a length within the line -/
def OpV : V → Prop
  | .int _ => True
  | .str z => z.length ≤ 40000
  | _ => False
def spPred (f : V → Bool) : Sp := fun vs H Q _ => ∃ v, vs = [v] ∧ OpV v ∧ RetV (.bl (f v)) H Q
def GC (mg : Str → Option Value) (x : Str) (v : V) : Prop := ∃ u, mg x = some u ∧ RelV v u
structure BasT (K : PySem.W.Frag) (mg : Str → Option Value) : Prop where
  letters : GC mg "LETTERS" (.str lettersS)
  digits : GC mg "DIGITS" (.str digitsS)
  nlen : GC mg "NAME_LENGTH" (.int 8)
  reserved : ∃ a, mg "RESERVED" = some (.ref a) ∧ ∀ H, SqT K H a reservedV
  toolong : GC mg "TOO_LONG" (.int (10 ^ 30))
  seats : GC mg "MOST_SEATS" (.int 4)
  isinst : mg "isinstance" = none
  str : mg "str" = none
  int : mg "int" = none
  bool : mg "bool" = none
  len : mg "len" = none
  all : mg "all" = none
theorem str_len (z : Str) : z.length = z.cps.toList.length := by
  unfold Str.length
  rw [Array.length_toList]
section
variable {P : Program} {w : World} {K : PySem.W.Frag} {mg : Str → Option Value} {base : Heap}
theorem scName : FnScope ["text", "sign"] ["text"] (defScope (topS 8)) := ⟨rfl, rfl, rfl, by decide +kernel, rfl, by decide +kernel, by decide +kernel⟩
theorem ok_is_name {f : Addr} {fd : FuncData} (F : Fun K "is_name" "is_name" (topS 8) f fd) (T : BasT K mg) : FnOk P w K mg base CX0 1 f fd ["text"] (spPred nameV) := by
  refine F.ok scName (fun vs H Q E h => ?_) (fun cdv A outer s H vs Q E hr h => ?_)
  · obtain ⟨v, rfl, _⟩ := h
    rfl
  · obtain ⟨v, rfl, hv, k⟩ := h
    obtain ⟨aR, gR, hR⟩ := T.reserved
    refine ⟨_, pss_cons (ps_if (PW.pt (pw_or (pt_not (pt_val (pe_callB call_isi (by rfl) T.isinst (by decide +kernel) (pa_cons (pv 0) (pa_cons (pe_bltn (v := .ty "str") (by rfl) T.str (by decide +kernel) rfl) pa_nil)))))
        (pw_or1 (pt_not (pt_chain op_le op_le pe_int (pe_callB call_len_str (by rfl) T.len PySem.boot_len (pa_cons (pv 0) pa_nil)) (C8.pe_gc (by rfl) T.nlen)))))) (pss_one (ps_ret pe_bl)) pss_nil)
      (pss_cons (ps_if (PW.pt (pw_or (pt_cmpR op_notIn_sign (pe_ix ix_str (pv 0) pe_int (fun _ _ => rfl)) (C8.pe_gc (by rfl) T.letters) (by rfl))
        (pw_or1 (pt_cmpR op_in_seq (pv 0) (pe_glob (v := .ref aR) (by rfl) gR rfl) (by rfl))))) (pss_one (ps_ret pe_bl)) pss_nil)
      (pss_one (ps_ret (pe_callB (cr_all rfl) (by rfl) T.all (by decide +kernel) (pa_cons
        (pe_lc (own := [("sign", 1)]) (g := gName 1) (tt := tYes) rfl scName.nd (pi_str (pv 0)) (blkOk_by (own := [("sign", 1)]) (N := ["text", "sign"]) (sc := defScope (topS 8)) (by decide +kernel))
          (fun _ _ _ _ _ => pg_name (i := 1) scName.nd rfl (Or.inl rfl)) (fun _ _ _ _ _ => pts_nil)
          (fun _ _ _ _ _ => pe_or (pe_cmpR op_in_sign (pv 1) (C8.pe_gc (by rfl) T.letters) (by rfl)) (pe_one (pe_cmpR op_in_sign (pv 1) (C8.pe_gc (by rfl) T.digits) (by rfl))))) pa_nil))))), ?_⟩
    cases v with
    | int i =>
      refine q_when (b := true) (et_is (et_or (et_not (et_B (ev_cb (ea_cons (ev_var rfl) (ea_cons ev_c ea_nil)) (rc_isInt (b := false) (by decide +kernel))))) (fun q => nomatch q) (b := true)) rfl) (fun _ H1 e1 => ?_) (fun q => nomatch q)
      exact s_ret ev_c fun H2 e2 => k H2 (e1.trans e2)
    | str z =>
      have hz : z.length ≤ 40000 := hv
      have hz2 : z.length ≤ sizeLine := sz_of (by omega)
      refine q_when (b := !(decide ((1 : Int) ≤ (z.length : Nat)) && decide (((z.length : Nat) : Int) ≤ 8))) (et_is (et_or (et_not (et_B (ev_cb (ea_cons (ev_var rfl) (ea_cons ev_c ea_nil)) (rc_isStr (b := true) (by decide +kernel)))))
        (fun _ => et_not (et_test (ev_chain ev_c (ev_cb (ea_cons (ev_var rfl) ea_nil) (rc_lenS hz2)) rv_I0 (fun _ => ev_c) (fun _ => rv_I0))))) rfl) (fun hb H1 e1 => ?_) (fun hb H1 e1 => ?_)
      · refine s_ret ev_c fun H2 e2 => ?_
        have e : nameV (.str z) = false := by
          show nameS z = false
          unfold nameS
          have : (decide (1 ≤ z.length) && decide (z.length ≤ 8)) = false := by
            have hb' : ((z.length : Nat) : Int) < 1 ∨ 8 < ((z.length : Nat) : Int) := by simpa using hb
            simp only [Bool.and_eq_false_iff, decide_eq_false_iff_not]
            omega
          rw [this]
          rfl
        have q := k H2 (e1.trans e2)
        rw [e] at q
        exact q
      · have hb' : 1 ≤ z.length ∧ z.length ≤ 8 := by
          have : ((1 : Int) ≤ (z.length : Nat) ∧ ((z.length : Nat) : Int) ≤ 8) := by simpa using hb
          omega
        obtain ⟨c, r, hc⟩ : ∃ c r, z.cps.toList = c :: r := by
          cases e : z.cps.toList with
          | nil =>
            have := str_len z
            rw [e] at this
            simp at this
            omega
          | cons c r => exact ⟨c, r, rfl⟩
        have h0 : atI z.cps.toList 0 = some c := atI_nat (j := 0) (by rw [hc]; rfl)
        refine q_when (b := !decide (c ∈ lettersS.cps.toList) || inV (.str z) reservedV) (et_or (et_test (ev_op (ev_op (ev_var rfl) ev_c (rv_ixS (by omega) h0)) ev_c rv_niSign))
          (fun _ => et_test (ev_op (ev_var rfl) ev_c (rv_isT (hR _) rfl (by decide +kernel))))) (fun hb2 H2 e2 => ?_) (fun hb2 H2 e2 => ?_)
        · refine s_ret ev_c fun H3 e3 => ?_
          have e : nameV (.str z) = false := by
            show nameS z = false
            unfold nameS
            rw [hc]
            have : (decide (c ∈ lettersS.cps.toList) && !inV (.str z) reservedV) = false := by
              rw [Bool.or_eq_true] at hb2
              rcases hb2 with hb2 | hb2
              · have : decide (c ∈ lettersS.cps.toList) = false := by simpa using hb2
                rw [this]
                rfl
              · rw [hb2]
                simp
            show (decide (1 ≤ z.length) && decide (z.length ≤ 8) && decide (c ∈ lettersS.cps.toList) && !inV (.str z) reservedV && (c :: r).all signOk) = false
            rw [Bool.and_assoc (decide (1 ≤ z.length) && decide (z.length ≤ 8)), this]
            simp
          have q := k H3 ((e1.trans e2).trans e3)
          rw [e] at q
          exact q
        · refine s_ret (ev_all (bs := z.cps.toList.map signOk) (by
            rw [List.map_map]
            exact el_lcSm (V.bl ∘ signOk) (ev_var rfl) (by omega) (fun _ => rfl) (fun c H3 _ _ => ev_orV (ev_op (ev_var rfl) ev_c rv_inSign) (fun _ => ev_op (ev_var rfl) ev_c rv_inSign)))) fun H3 e3 => ?_
          have e : nameV (.str z) = (z.cps.toList.map signOk).all id := by
            show nameS z = _
            unfold nameS
            rw [hc]
            rw [Bool.or_eq_false_iff] at hb2
            have a1 : decide (c ∈ lettersS.cps.toList) = true := by simpa using hb2.1
            show (decide (1 ≤ z.length) && decide (z.length ≤ 8) && decide (c ∈ lettersS.cps.toList) && !inV (.str z) reservedV && (c :: r).all signOk) = _
            rw [decide_eq_true hb'.1, decide_eq_true hb'.2, a1, hb2.2, List.all_map]
            rfl
          have q := k H3 ((e1.trans e2).trans e3)
          rw [e] at q
          exact q
    | _ => exact hv.elim
/-! ### integers, operands, seats -/
def intV : V → Bool
  | .int _ => true
  | _ => false
def shortV : V → Bool
  | .int i => decide (-(10 ^ 30) < i) && decide (i < 10 ^ 30)
  | _ => false
def operandV (v : V) : Bool := shortV v || nameV v
def seatsV : V → Bool
  | .int i => decide (1 ≤ i) && decide (i ≤ 4)
  | _ => false
theorem sp_pred {f : V → Bool} {v : V} {H : Hp} (h : OpV v) : SpV (spPred f) [v] H (.bl (f v)) := fun H1 _ Q q E => ⟨v, rfl, h, fun H2 e => q H2 e⟩
theorem scInt : FnScope ["value"] ["value"] (defScope (topS 10)) := ⟨rfl, rfl, rfl, by decide +kernel, rfl, by decide +kernel, by decide +kernel⟩
theorem ok_is_int {f : Addr} {fd : FuncData} (F : Fun K "is_int" "is_int" (topS 10) f fd) (T : BasT K mg) : FnOk P w K mg base CX0 1 f fd ["value"] (spPred intV) := by
  refine F.ok scInt (fun vs H Q E h => ?_) (fun cdv A outer s H vs Q E hr h => ?_)
  · obtain ⟨v, rfl, _⟩ := h
    rfl
  · obtain ⟨v, rfl, hv, k⟩ := h
    refine ⟨_, pss_one (ps_ret (pe_and (pe_callB call_isi (by rfl) T.isinst (by decide +kernel) (pa_cons (pv 0) (pa_cons (pe_bltn (v := .ty "int") (by rfl) T.int (by decide +kernel) rfl) pa_nil)))
      (pe_one (pe_not (pe_callB call_isi (by rfl) T.isinst (by decide +kernel) (pa_cons (pv 0) (pa_cons (pe_bltn (v := .ty "bool") (by rfl) T.bool (by decide +kernel) rfl) pa_nil))))))), ?_⟩
    cases v with
    | int i => exact s_ret (ev_andV (a := true) (b := true) (ev_cb (ea_cons (ev_var rfl) (ea_cons ev_c ea_nil)) (rc_isInt (by decide +kernel)))
        (fun _ => ev_notV (a := false) (ev_cb (ea_cons (ev_var rfl) (ea_cons ev_c ea_nil)) (rc_isInt (by decide +kernel))))) k
    | str z => exact s_ret (ev_andV (a := false) (b := true) (ev_cb (ea_cons (ev_var rfl) (ea_cons ev_c ea_nil)) (rc_isStr (by decide +kernel))) (fun q => nomatch q)) k
    | _ => exact hv.elim
theorem scShort : FnScope ["value"] ["value"] (defScope (topS 11)) := ⟨rfl, rfl, rfl, by decide +kernel, rfl, by decide +kernel, by decide +kernel⟩
theorem ok_is_short {f : Addr} {fd : FuncData} (F : Fun K "is_short" "is_short" (topS 11) f fd) (T : BasT K mg) (GI : CalX P w K mg base CX0 1 "is_int" (spPred intV)) : FnOk P w K mg base CX0 2 f fd ["value"] (spPred shortV) := by
  refine F.ok scShort (fun vs H Q E h => ?_) (fun cdv A outer s H vs Q E hr h => ?_)
  · obtain ⟨v, rfl, _⟩ := h
    rfl
  · obtain ⟨v, rfl, hv, k⟩ := h
    refine ⟨_, pss_one (ps_ret (pe_and (pe_cx (E := fun _ => E0) GI hr (by decide) (by rfl) at0 (pa_cons (pv 0) pa_nil))
      (pe_one (pe_chain op_lt op_lt (pe_un un_neg (C8.pe_gc (by rfl) T.toolong)) (pv 0) (C8.pe_gc (by rfl) T.toolong))))), ?_⟩
    cases v with
    | int i => exact s_ret (ev_andV (a := true) (ev_cx (ea_cons (ev_var rfl) ea_nil) (sp_pred hv)) (fun _ => ev_chain (ev_un ev_c ru_neg) (ev_var rfl) rv_I0 (fun _ => ev_c) (fun _ => rv_I0))) k
    | str z => exact s_ret (ev_andV (a := false) (b := true) (ev_cx (ea_cons (ev_var rfl) ea_nil) (sp_pred hv)) (fun q => nomatch q)) k
    | _ => exact hv.elim
theorem scOperand : FnScope ["part"] ["part"] (defScope (topS 12)) := ⟨rfl, rfl, rfl, by decide +kernel, rfl, by decide +kernel, by decide +kernel⟩
theorem ok_is_operand {f : Addr} {fd : FuncData} (F : Fun K "is_operand" "is_operand" (topS 12) f fd) (GS : CalX P w K mg base CX0 2 "is_short" (spPred shortV)) (GN : CalX P w K mg base CX0 1 "is_name" (spPred nameV)) :
    FnOk P w K mg base CX0 3 f fd ["part"] (spPred operandV) := by
  refine F.ok scOperand (fun vs H Q E h => ?_) (fun cdv A outer s H vs Q E hr h => ?_)
  · obtain ⟨v, rfl, _⟩ := h
    rfl
  · obtain ⟨v, rfl, hv, k⟩ := h
    refine ⟨_, pss_one (ps_ret (pe_or (pe_cx (E := fun _ => E0) GS hr (by decide) (by rfl) at0 (pa_cons (pv 0) pa_nil)) (pe_one (pe_cx (E := fun _ => E0) GN hr (by decide) (by rfl) at0 (pa_cons (pv 0) pa_nil))))), ?_⟩
    exact s_ret (ev_orV (ev_cx (ea_cons (ev_var rfl) ea_nil) (sp_pred hv)) (fun _ => ev_cx (ea_cons (ev_var rfl) ea_nil) (sp_pred hv))) k
theorem scSeats : FnScope ["count"] ["count"] (defScope (topS 13)) := ⟨rfl, rfl, rfl, by decide +kernel, rfl, by decide +kernel, by decide +kernel⟩
theorem ok_is_seats {f : Addr} {fd : FuncData} (F : Fun K "is_seats" "is_seats" (topS 13) f fd) (T : BasT K mg) (GI : CalX P w K mg base CX0 1 "is_int" (spPred intV)) : FnOk P w K mg base CX0 2 f fd ["count"] (spPred seatsV) := by
  refine F.ok scSeats (fun vs H Q E h => ?_) (fun cdv A outer s H vs Q E hr h => ?_)
  · obtain ⟨v, rfl, _⟩ := h
    rfl
  · obtain ⟨v, rfl, hv, k⟩ := h
    refine ⟨_, pss_one (ps_ret (pe_and (pe_cx (E := fun _ => E0) GI hr (by decide) (by rfl) at0 (pa_cons (pv 0) pa_nil))
      (pe_one (pe_chain op_le op_le pe_int (pv 0) (C8.pe_gc (by rfl) T.seats))))), ?_⟩
    cases v with
    | int i => exact s_ret (ev_andV (a := true) (ev_cx (ea_cons (ev_var rfl) ea_nil) (sp_pred hv)) (fun _ => ev_chain ev_c (ev_var rfl) rv_I0 (fun _ => ev_c) (fun _ => rv_I0))) k
    | str z => exact s_ret (ev_andV (a := false) (b := true) (ev_cx (ea_cons (ev_var rfl) ea_nil) (sp_pred hv)) (fun q => nomatch q)) k
    | _ => exact hv.elim
end
end Fs

set_option Elab.async false
set_option linter.all false
set_option maxRecDepth 100000
set_option maxHeartbeats 2000000
namespace Fs
open PySem L2 Evl FsE FsC FsR
/-- the parts of a process, as its tuple holds them -/
def PartsAt (C : Addr) (H : Hp) (ps : List V) : Pr → Prop
  | .choice os => OfsAt C H ps os
  | .new n k r => ∃ b, ps = [.str n, .int k, .ref b] ∧ PrAt C H b r
  | .cond l r y n => ∃ b c, ps = [l.v, r.v, .ref b, .ref c] ∧ PrAt C H b y ∧ PrAt C H c n
  | .call n ops => ∃ u, ps = [.str n, .ref u] ∧ H u = some (.tup (ops.map Opd.v))
theorem PartsAt.ex {C : Addr} {H H' : Hp} {ps : List V} {p : Pr} (e : Ex H H') (h : PartsAt C H ps p) : PartsAt C H' ps p := by
  cases p with
  | choice os => exact OfsAt.ex e h
  | new n k r =>
    obtain ⟨b, h1, h2⟩ := h
    exact ⟨b, h1, h2.ex e⟩
  | cond l r y n =>
    obtain ⟨b, c, h1, h2, h3⟩ := h
    exact ⟨b, c, h1, h2.ex e, h3.ex e⟩
  | call n ops =>
    obtain ⟨u, h1, h2⟩ := h
    exact ⟨u, h1, e _ _ h2⟩
theorem PrAt.mk {C : Addr} {H : Hp} {a t : Addr} {ps : List V} {p : Pr} (h1 : InsAt C H a p.kind t p.depth p.size) (h2 : H t = some (.tup ps)) (h3 : PartsAt C H ps p) : PrAt C H a p := by
  cases p with
  | choice os =>
    unfold PrAt
    unfold Pr.kind Pr.depth Pr.size at h1
    exact ⟨t, ps, h1, h2, h3⟩
  | new n k r =>
    unfold PrAt
    unfold Pr.kind Pr.depth Pr.size at h1
    obtain ⟨b, rfl, h4⟩ := h3
    exact ⟨t, b, h1, h2, h4⟩
  | cond l r y n =>
    unfold PrAt
    unfold Pr.kind Pr.depth Pr.size at h1
    obtain ⟨b, c, rfl, h4, h5⟩ := h3
    exact ⟨t, b, c, h1, h2, h4, h5⟩
  | call n ops =>
    unfold PrAt
    unfold Pr.kind Pr.depth Pr.size at h1
    obtain ⟨u, rfl, h4⟩ := h3
    exact ⟨t, u, h1, h2, h4⟩
theorem PrAt.out {C : Addr} {H : Hp} {a : Addr} {p : Pr} (h : PrAt C H a p) : ∃ t ps, InsAt C H a p.kind t p.depth p.size ∧ H t = some (.tup ps) ∧ PartsAt C H ps p := by
  cases p with
  | choice os =>
    unfold PrAt at h
    obtain ⟨t, ps, h1, h2, h3⟩ := h
    exact ⟨t, ps, by unfold Pr.kind Pr.depth Pr.size; exact h1, h2, h3⟩
  | new n k r =>
    unfold PrAt at h
    obtain ⟨t, b, h1, h2, h3⟩ := h
    exact ⟨t, _, by unfold Pr.kind Pr.depth Pr.size; exact h1, h2, b, rfl, h3⟩
  | cond l r y n =>
    unfold PrAt at h
    obtain ⟨t, b, c, h1, h2, h3, h4⟩ := h
    exact ⟨t, _, by unfold Pr.kind Pr.depth Pr.size; exact h1, h2, b, c, rfl, h3, h4⟩
  | call n ops =>
    unfold PrAt at h
    obtain ⟨t, u, h1, h2, h3⟩ := h
    exact ⟨t, _, by unfold Pr.kind Pr.depth Pr.size; exact h1, h2, u, rfl, h3⟩
/-! ### what is contained directly -/
def Ofs.rests : Ofs → List Pr
  | .nil => []
  | .cons _ _ _ _ _ r os => r :: os.rests
def Pr.inner : Pr → List Pr
  | .choice os => os.rests
  | .new _ _ r => [r]
  | .cond _ _ y n => [y, n]
  | .call _ _ => []
/-- a list of processes, by their addresses -/
def InnAt (C : Addr) (H : Hp) : List V → List Pr → Prop
  | [], [] => True
  | x :: xs, p :: ps => (∃ a, x = .ref a ∧ PrAt C H a p) ∧ InnAt C H xs ps
  | _, _ => False
theorem InnAt.ex {C : Addr} {H H' : Hp} (e : Ex H H') : ∀ {xs : List V} {ps : List Pr}, InnAt C H xs ps → InnAt C H' xs ps
  | [], [], _ => True.intro
  | x :: xs, p :: ps, ⟨⟨a, h1, h2⟩, h3⟩ => ⟨⟨a, h1, h2.ex e⟩, InnAt.ex e h3⟩
  | [], _ :: _, h => h.elim
  | _ :: _, [], h => h.elim
theorem InnAt.get {C : Addr} {H : Hp} : ∀ {xs : List V} {ps : List Pr} {x : V}, InnAt C H xs ps → x ∈ xs → ∃ a p, x = .ref a ∧ PrAt C H a p ∧ p ∈ ps
  | [], _, _, _, hx => nomatch hx
  | y :: xs, [], _, h, _ => h.elim
  | y :: xs, p :: ps, x, ⟨⟨a, h1, h2⟩, h3⟩, hx => by
    rcases List.mem_cons.mp hx with rfl | hx
    · exact ⟨a, p, h1, h2, List.mem_cons_self⟩
    · obtain ⟨b, q, k1, k2, k3⟩ := InnAt.get h3 hx
      exact ⟨b, q, k1, k2, List.mem_cons_of_mem _ k3⟩
theorem InnAt.length {C : Addr} {H : Hp} : ∀ {xs : List V} {ps : List Pr}, InnAt C H xs ps → xs.length = ps.length
  | [], [], _ => rfl
  | x :: xs, p :: ps, ⟨_, h⟩ => congrArg (· + 1) (InnAt.length h)
  | [], _ :: _, h => h.elim
  | _ :: _, [], h => h.elim
theorem Ofs.rests_len : ∀ os : Ofs, os.rests.length = os.len
  | .nil => rfl
  | .cons _ _ _ _ _ r os => congrArg (· + 1) (Ofs.rests_len os)
/-- the greatest depth, the sum of the sizes -/
theorem Ofs.sum_eq : ∀ os : Ofs, os.sum = (os.rests.map Pr.size).sum
  | .nil => rfl
  | .cons _ _ _ _ _ r os => by
    unfold Ofs.sum Ofs.rests
    rw [List.map_cons, List.sum_cons, Ofs.sum_eq os]
mutual
theorem Pr.depth_pos : ∀ p : Pr, 1 ≤ p.depth
  | .choice os => by
    unfold Pr.depth
    have := Ofs.depth_nn os
    omega
  | .new _ _ r => by
    unfold Pr.depth
    have := Pr.depth_pos r
    omega
  | .cond _ _ y n => by
    unfold Pr.depth
    have := Pr.depth_pos y
    have := Pr.depth_pos n
    omega
  | .call _ _ => by
    unfold Pr.depth
    omega
theorem Ofs.depth_nn : ∀ os : Ofs, 0 ≤ os.depth
  | .nil => by
    unfold Ofs.depth
    omega
  | .cons _ _ _ _ _ r os => by
    unfold Ofs.depth
    have := Pr.depth_pos r
    omega
end
theorem maxFrom_ge : ∀ (ys : List Int) (y : Int), maxFrom y ys = max y (maxFrom 0 ys) ∨ (y < 0)
  | [], y => by
    unfold maxFrom
    simp only [List.foldl_nil]
    omega
  | z :: zs, y => by
    have h1 := maxFrom_ge zs (max y z)
    have h2 := maxFrom_ge zs (max 0 z)
    unfold maxFrom at *
    simp only [List.foldl_cons]
    omega
theorem Ofs.depth_eq : ∀ os : Ofs, maxDef 0 (os.rests.map Pr.depth) = os.depth
  | .nil => rfl
  | .cons _ _ _ _ _ r os => by
    unfold Ofs.rests Ofs.depth
    rw [List.map_cons]
    show maxFrom r.depth (os.rests.map Pr.depth) = max r.depth os.depth
    have ih := Ofs.depth_eq os
    have hr := Pr.depth_pos r
    cases hr2 : os.rests.map Pr.depth with
    | nil =>
      rw [hr2] at ih
      have e0 : (0 : Int) = os.depth := ih
      unfold maxFrom
      simp only [List.foldl_nil]
      omega
    | cons y ys =>
      rw [hr2] at ih
      have e0 : maxFrom y ys = os.depth := ih
      have hy : 1 ≤ y := by
        have : y ∈ os.rests.map Pr.depth := by rw [hr2]; exact List.mem_cons_self
        obtain ⟨q, _, rfl⟩ := List.mem_map.mp this
        exact Pr.depth_pos q
      have h1 := maxFrom_ge ys y
      have h2 := maxFrom_ge ys (max r.depth y)
      show maxFrom (max r.depth y) ys = _
      omega
theorem Pr.depth_eq (p : Pr) : 1 + maxDef 0 (p.inner.map Pr.depth) = p.depth := by
  cases p with
  | choice os =>
    unfold Pr.inner Pr.depth
    rw [Ofs.depth_eq]
  | new n k r =>
    unfold Pr.depth
    rfl
  | cond l r y n =>
    unfold Pr.depth
    rfl
  | call n ops =>
    unfold Pr.depth
    rfl
def Pr.own : Pr → Int
  | .choice os => max 1 (os.len : Int)
  | _ => 1
theorem Pr.size_eq (p : Pr) : p.own + (p.inner.map Pr.size).sum = p.size := by
  cases p with
  | choice os =>
    unfold Pr.inner Pr.size Pr.own
    rw [Ofs.sum_eq]
  | new n k r =>
    unfold Pr.size Pr.own Pr.inner
    simp
  | cond l r y n =>
    unfold Pr.size Pr.own Pr.inner
    simp
  | call n ops =>
    unfold Pr.size Pr.own Pr.inner
    simp
theorem OfsAt.len {C : Addr} {H : Hp} : ∀ {os : Ofs} {ps : List V}, OfsAt C H ps os → ps.length = os.len
  | .nil, ps, h => by
    unfold OfsAt at h
    rw [h]
    rfl
  | .cons c s m op ns r os, ps, h => by
    unfold OfsAt at h
    obtain ⟨o, u, b, qs, h1, _, _, _, h5⟩ := h
    rw [h1]
    exact congrArg (· + 1) (OfsAt.len h5)
/-- the rests of the offers -/
theorem OfsAt.rests {C : Addr} {H : Hp} : ∀ {os : Ofs} {ps : List V}, OfsAt C H ps os → ∃ rs : List V, rs.length = ps.length ∧ InnAt C H rs os.rests ∧
    ∀ (i : Nat) (x : V), ps[i]? = some x → ∃ (o : Addr) (c : Str) (s m : Int) (op : Opd) (u : Addr) (y : V), x = .ref o ∧ rs[i]? = some y ∧ H o = some (.tup [.str c, .int s, .int m, op.v, .ref u, y])
  | .nil, ps, h => by
    unfold OfsAt at h
    subst h
    exact ⟨[], rfl, True.intro, fun i x hx => by simp at hx⟩
  | .cons c s m op ns r os, ps, h => by
    unfold OfsAt at h
    obtain ⟨o, u, b, qs, rfl, h2, h3, h4, h5⟩ := h
    obtain ⟨rs, k1, k2, k3⟩ := OfsAt.rests h5
    refine ⟨.ref b :: rs, congrArg (· + 1) k1, ⟨⟨b, rfl, h4⟩, k2⟩, fun i x hx => ?_⟩
    cases i with
    | zero =>
      have e : V.ref o = x := by simpa using hx
      subst e
      exact ⟨o, c, s, m, op, u, .ref b, rfl, rfl, h2⟩
    | succ i =>
      obtain ⟨o', c', s', m', op', u', y', z1, z2, z3⟩ := k3 i x (by simpa using hx)
      exact ⟨o', c', s', m', op', u', y', z1, by simpa using z2, z3⟩
/-- rs: what a process with these parts contains directly -/
def InnOf (C : Addr) (H : Hp) (ps rs : List V) : Pr → Prop
  | .choice os => rs.length = ps.length ∧ InnAt C H rs os.rests ∧
    ∀ (i : Nat) (x : V), ps[i]? = some x → ∃ (o : Addr) (c : Str) (s m : Int) (op : Opd) (u : Addr) (y : V), x = .ref o ∧ rs[i]? = some y ∧ H o = some (.tup [.str c, .int s, .int m, op.v, .ref u, y])
  | .new n k r => ∃ b, ps = [.str n, .int k, .ref b] ∧ rs = [.ref b] ∧ PrAt C H b r
  | .cond l r y n => ∃ b c, ps = [l.v, r.v, .ref b, .ref c] ∧ rs = [.ref b, .ref c] ∧ PrAt C H b y ∧ PrAt C H c n
  | .call n ops => ∃ u, ps = [.str n, .ref u] ∧ rs = [] ∧ H u = some (.tup (ops.map Opd.v))
theorem InnOf.ex {C : Addr} {H H' : Hp} {ps rs : List V} {p : Pr} (e : Ex H H') (h : InnOf C H ps rs p) : InnOf C H' ps rs p := by
  cases p with
  | choice os =>
    obtain ⟨h1, h2, h3⟩ := h
    refine ⟨h1, h2.ex e, fun i x hx => ?_⟩
    obtain ⟨o, c, s, m, op, u, y, z1, z2, z3⟩ := h3 i x hx
    exact ⟨o, c, s, m, op, u, y, z1, z2, e _ _ z3⟩
  | new n k r =>
    obtain ⟨b, h1, h2, h3⟩ := h
    exact ⟨b, h1, h2, h3.ex e⟩
  | cond l r y n =>
    obtain ⟨b, c, h1, h2, h3, h4⟩ := h
    exact ⟨b, c, h1, h2, h3.ex e, h4.ex e⟩
  | call n ops =>
    obtain ⟨u, h1, h2, h3⟩ := h
    exact ⟨u, h1, h2, e _ _ h3⟩
theorem PartsAt.inn {C : Addr} {H : Hp} {ps : List V} {p : Pr} (h : PartsAt C H ps p) : ∃ rs, InnOf C H ps rs p := by
  cases p with
  | choice os =>
    obtain ⟨rs, h1, h2, h3⟩ := OfsAt.rests h
    exact ⟨rs, h1, h2, h3⟩
  | new n k r =>
    obtain ⟨b, h1, h2⟩ := h
    exact ⟨[.ref b], b, h1, rfl, h2⟩
  | cond l r y n =>
    obtain ⟨b, c, h1, h2, h3⟩ := h
    exact ⟨[.ref b, .ref c], b, c, h1, rfl, h2, h3⟩
  | call n ops =>
    obtain ⟨u, h1, h2⟩ := h
    exact ⟨[], u, h1, rfl, h2⟩
theorem InnOf.at {C : Addr} {H : Hp} {ps rs : List V} {p : Pr} (h : InnOf C H ps rs p) : InnAt C H rs p.inner := by
  cases p with
  | choice os => exact h.2.1
  | new n k r =>
    obtain ⟨b, _, rfl, h3⟩ := h
    exact ⟨⟨b, rfl, h3⟩, True.intro⟩
  | cond l r y n =>
    obtain ⟨b, c, _, rfl, h3, h4⟩ := h
    exact ⟨⟨b, rfl, h3⟩, ⟨c, rfl, h4⟩, True.intro⟩
  | call n ops =>
    obtain ⟨u, _, rfl, _⟩ := h
    exact True.intro
theorem InnAt.at_ {C : Addr} {H : Hp} : ∀ {xs : List V} {ps : List Pr} {i : Nat} {x : V}, InnAt C H xs ps → xs[i]? = some x → ∃ a p, x = .ref a ∧ PrAt C H a p ∧ ps[i]? = some p
  | [], _, _, _, _, hx => by simp at hx
  | y :: xs, [], _, _, h, _ => h.elim
  | y :: xs, p :: ps, 0, x, ⟨⟨a, h1, h2⟩, h3⟩, hx => by
    have e : y = x := by simpa using hx
    subst e
    exact ⟨a, p, h1, h2, rfl⟩
  | y :: xs, p :: ps, i + 1, x, ⟨_, h3⟩, hx => by
    obtain ⟨b, q, k1, k2, k3⟩ := InnAt.at_ (i := i) h3 (by simpa using hx)
    exact ⟨b, q, k1, k2, by simpa using k3⟩
end Fs

set_option Elab.async false
set_option linter.all false
set_option maxRecDepth 100000
set_option maxHeartbeats 2000000
namespace Fs
open PySem L2 Evl FsE FsC FsR
/-! ### what raises: an own error of one argument -/
/-- X(e) made, to be raised: its own dict d, new, holds the argument under f -/
def tMkE (C : Addr) (f : Str) (ta : TA) : L2.St → Hp → XK → Prop := fun σ H Q => ta σ H fun vs H1 => ∃ z : Str, vs = [.str z] ∧ z.length ≤ 1000 ∧ ∀ d, H1 d = none → Q (.ref C) (some d) (upd H1 d (.xd [(f, .str z)]))
/-- the class x at C makes such errors -/
def RaisesX (P : Program) (w : World) (K : PySem.W.Frag) (mg : Str → Option Value) (base : Heap) (x : Str) (C : Addr) (f : Str) (k : Nat) : Prop :=
  ∀ (X : Cx), X.prog = P → X.w = w → X.K = K → X.mg = mg → X.base = base → Room k X.A → ∀ (a : Expr) (ta : TA) (p pos : Pos), PA X [a] ta → Gl X x → starEach (a :: []) X.env = (false, eval a X.env) :: starEach [] X.env → (backTo pos (starEach [] X.env)).any (·.1) = false →
    PMk X (.Call (.Name x p) [a] [] pos) (tMkE C f ta)
/-- what the text has told of the terms' module -/
structure TerT (K : PySem.W.Frag) (mg : Str → Option Value) (C CB : Addr) : Prop where
  cl : Cls K C
  nK : NoAttr K C "kind"
  nP : NoAttr K C "parts"
  nD : NoAttr K C "depth"
  nS : NoAttr K C "size"
  mgC : mg "Process" = some (.ref C)
  kStr : PySem.W.kitOne K (.type "str") (.ref C) = some false
  kInt : PySem.W.kitOne K (.type "int") (.ref C) = some false
  kTup : PySem.W.kitOne K (.type "tuple") (.ref C) = some false
  ha : PySem.W.findIn K (.ref C) "__class__" = some (some (.builtin "object.__class__"))
  hn : PySem.W.specialIn K (.builtin "object.__class__") "__get__" = some (some (.builtin "getset_descriptor.__get__"))
  htk : PySem.W.takesIn K (.builtin "object.__class__") = some true
  hm : PySem.W.mroIn K C (.type "object") = some true
  sum : mg "sum" = none
  max : mg "max" = none
  tuple : mg "tuple" = none
  depth : GC mg "MOST_DEPTH" (.int 20)
  size : GC mg "MOST_SIZE" (.int 400)
theorem kOwn {K : PySem.W.Frag} {C : Addr} : PySem.W.kitOne K (.ref C) (.ref C) = some true := by
  unfold PySem.W.kitOne
  rw [if_pos (beq_self_eq_true _)]
/-- what is raised: the field f -/
def Bad (CB : Addr) (f : Str) (H : Hp) (E : XK) : Prop := ∀ (d : Addr) (H' : Hp), Ex H H' → H d = none → H' d = some (.xd [("field", .str f)]) → E (.ref CB) (some d) H'
theorem Bad.ex {CB : Addr} {f : Str} {H H' : Hp} {E : XK} (e : Ex H H') (h : Bad CB f H E) : Bad CB f H' E := fun d H2 e2 hd h2 => h d H2 (e.trans e2) (fresh_back e hd) h2
/-- demand(allowed, field) -/
def spDemand (CB : Addr) : Sp := fun vs H Q E => ∃ (b : Bool) (f : Str), vs = [.bl b, .str f] ∧ f.length ≤ 1000 ∧ (b = true → RetV .non H Q) ∧ (b = false → Bad CB f H E)
section
variable {P : Program} {w : World} {K : PySem.W.Frag} {mg : Str → Option Value} {base : Heap} {C CB : Addr}
theorem scDemand : FnScope ["allowed", "field"] ["allowed", "field"] (defScope (topS 32)) := ⟨rfl, rfl, rfl, by decide +kernel, rfl, by decide +kernel, by decide +kernel⟩
theorem ok_demand {f : Addr} {fd : FuncData} {k : Nat} (F : Fun K "demand" "demand" (topS 32) f fd) (R : RaisesX P w K mg base "BadTerm" CB "field" k) : FnOk P w K mg base (L2.CX P w) (k + 1) f fd ["allowed", "field"] (spDemand CB) := by
  refine F.okX scDemand (fun vs H Q E h => ?_) (fun cdv A outer s H vs Q E hr h => ?_)
  · obtain ⟨b, z, rfl, _⟩ := h
    rfl
  · obtain ⟨b, z, rfl, hz, k1, k2⟩ := h
    refine ⟨_, pss_one (ps_if (pt_not (pt_val (pv 0))) (pss_one (ps_raise (W := fun cls d _ H => E cls d H) rfl (takes_of rfl rfl rfl rfl) (R _ rfl rfl rfl rfl rfl hr _ _ _ _ (pa_cons (pv 1) pa_nil) (by rfl) (by rfl) (by rfl)))) pss_nil), ?_⟩
    refine s_if (et_not (et_B (ev_var rfl))) (fun hb H1 e1 => ?_) (fun hb H1 e1 => ?_)
    · have hb' : b = false := by simpa using hb
      refine ⟨_, rfl, z, rfl, hz, fun d hd => ?_⟩
      exact k2 hb' d _ (e1.trans (Ex.new hd)) (fresh_back e1 hd) upd_same
    · have hb' : b = true := by simpa using hb
      exact k1 hb' H1 e1
/-- demand(e, 'f') as a statement, what follows behind it -/
theorem q_demand {σ : L2.St} {H : Hp} {te : TE} {f : Str} {b : Bool} {E : L2.St → XK} {tz : TS} {D : Ends} (hf : f.length ≤ 1000) (h : Ev te σ H (.bl b)) (k1 : b = true → ∀ H1, Ex H H1 → tz D σ H1) (k2 : b = false → Bad CB f H (E σ)) :
    tSeq (tDrop (tCallS (spDemand CB) E (tCons te (tCons (tC (.str f)) tNil)))) tz D σ H :=
  h H (Ex.refl H) _ fun H1 e1 => ⟨b, f, rfl, hf, fun hb H2 e2 => k1 hb H2 (e1.trans e2), fun hb => (k2 hb).ex e1⟩
theorem s_demand {σ : L2.St} {H : Hp} {te : TE} {f : Str} {b : Bool} {E : L2.St → XK} {D : Ends} (hf : f.length ≤ 1000) (h : Ev te σ H (.bl b)) (k1 : b = true → ∀ H1, Ex H H1 → D.nx σ H1) (k2 : b = false → Bad CB f H (E σ)) :
    tDrop (tCallS (spDemand CB) E (tCons te (tCons (tC (.str f)) tNil))) D σ H :=
  h H (Ex.refl H) _ fun H1 e1 => ⟨b, f, rfl, hf, fun hb H2 e2 => k1 hb H2 (e1.trans e2), fun hb => (k2 hb).ex e1⟩
/-! ### what a process contains -/
theorem kNew : decide (V.str "new" = V.str "choice") = false := by decide +kernel
theorem kIf : decide (V.str "if" = V.str "choice") = false := by decide +kernel
theorem kCall : decide (V.str "call" = V.str "choice") = false := by decide +kernel
def spInner (C : Addr) : Sp := fun vs H Q _ => ∃ (p : Pr) (t : Addr) (ps rs : List V), vs = [.str p.kind, .ref t] ∧ H t = some (.tup ps) ∧ ps.length ≤ 100 ∧ InnOf C H ps rs p ∧ RetL rs H Q
theorem sp_inner {p : Pr} {t : Addr} {ps rs : List V} {H : Hp} (h1 : H t = some (.tup ps)) (h2 : ps.length ≤ 100) (h3 : InnOf C H ps rs p) : SpL (spInner C) [.str p.kind, .ref t] H rs := fun H1 e Q q E =>
  ⟨p, t, ps, rs, rfl, e _ _ h1, h2, h3.ex e, q⟩
theorem scInner : FnScope ["kind", "parts", "offer", "part"] ["kind", "parts"] (defScope (topS 33)) := ⟨rfl, rfl, rfl, by decide +kernel, rfl, by decide +kernel, by decide +kernel⟩
theorem tyx_pr (T : TerT K mg C CB) {H : Hp} {a : Addr} {p : Pr} (h : PrAt C H a p) : ∀ H1, Ex H H1 → TyX K H1 (.ref a) (.ref C) := fun H1 e => by
  obtain ⟨t, ps, ⟨dx, h1⟩, _⟩ := h.out
  exact .base (.ins (e _ _ h1) T.cl T.ha T.hn T.htk T.hm)
theorem tyx_opd (T : TerT K mg C CB) {H : Hp} (o : Opd) : ∃ t, (∀ H1, Ex H H1 → TyX K H1 o.v t) ∧ PySem.W.kitOne K t (.ref C) = some false := by
  cases o with
  | int i => exact ⟨_, fun _ _ => .base (.int i), T.kInt⟩
  | nm z => exact ⟨_, fun _ _ => .base (.str z), T.kStr⟩
theorem et_isPr {σ : L2.St} {H : Hp} {i : Nat} {x : V} {t : Value} {b : Bool} (hx : σ[i]? = some (some x)) (ht : ∀ H1, Ex H H1 → TyX K H1 x t) (hk : PySem.W.kitOne K t (.ref C) = some b) :
    EvT (L2.tB (tCB (rIsi K) (tCons (tVar i) (tCons (tC (.ref C)) tNil)))) σ H b := et_B (ev_cb (ea_cons (ev_var hx) (ea_cons ev_c ea_nil)) (rc_isiOwn ht hk))
theorem ok_inner {f : Addr} {fd : FuncData} (F : Fun K "inner_processes" "inner_processes" (topS 33) f fd) (B : BasT K mg) (T : TerT K mg C CB) : FnOk P w K mg base CX0 1 f fd ["kind", "parts"] (spInner C) := by
  refine F.ok scInner (fun vs H Q E h => ?_) (fun cdv A outer s H vs Q E hr h => ?_)
  · obtain ⟨p, t, ps, rs, rfl, _⟩ := h
    rfl
  · obtain ⟨p, t, ps, rs, rfl, ht, hl, hI, k⟩ := h
    refine ⟨_, pss_cons (ps_if (pt_cmpR op_eq (pv 0) pe_str (nomark _)) (pss_one (ps_ret (pe_lc (own := [("offer", 2)]) (g := gName 2) (tt := tYes) rfl scInner.nd (pi_tup (pv 1)) (blkOk_by (own := [("offer", 2)]) (N := ["kind", "parts", "offer", "part"]) (sc := defScope (topS 33)) (by decide +kernel))
          (fun _ _ _ _ _ => pg_name (i := 2) scInner.nd rfl (Or.inl rfl)) (fun _ _ _ _ _ => pts_nil) (fun _ _ _ _ _ => pe_ix (r := rIxT K) ix_tup (pv 2) (pe_un un_neg pe_int) (fun _ _ => rfl))))) pss_nil)
      (pss_one (ps_ret (pe_lc (own := [("part", 3)]) (g := gName 3) (tt := L2.tB (tCB (rIsi K) (tCons (tVar 3) (tCons (tC (.ref C)) tNil)))) rfl scInner.nd (pi_tup (pv 1)) (blkOk_by (own := [("part", 3)]) (N := ["kind", "parts", "offer", "part"]) (sc := defScope (topS 33)) (by decide +kernel))
          (fun _ _ _ _ _ => pg_name (i := 3) scInner.nd rfl (Or.inl rfl)) (fun _ _ _ _ _ => pts_one (pt_val (pe_callB (id := "isinstance") (r := rIsi K) call_isi (by rfl) B.isinst (by decide +kernel) (pa_cons (pv 3) (pa_cons (pe_glob (v := .ref C) (by rfl) T.mgC rfl) pa_nil))))) (fun _ _ _ _ _ => pv 3)))), ?_⟩
    cases p with
    | choice os =>
      refine q_if (b := true) (et_test (ev_op (ev_var rfl) ev_c (rv_eq rfl))) (fun _ H1 e1 => ?_) (fun q => nomatch q)
      obtain ⟨h1, h2, h3⟩ := hI.ex e1
      refine s_retL (el_lcTy (ev_var rfl) (st_of (e1 _ _ ht)) (by omega) (fun _ => rfl) h1 (fun i x y H2 e2 hx hy => ?_)) (fun q H2 hq e2 h2 => k q H2 (fresh_back e1 hq) (e1.trans e2) h2)
      obtain ⟨o, c, s, m, op, u, y', rfl, z2, z3⟩ := h3 i x hx
      have e : y' = y := by
        rw [hy] at z2
        exact (Option.some.inj z2).symm
      subst e
      exact ev_op (ev_var rfl) (ev_un ev_c ru_neg) (rv_ixT (st_of (e2 _ _ z3)) rfl)
    | new n kk r =>
      refine q_if (b := false) (et_is (et_test (ev_op (ev_var rfl) ev_c (rv_eq rfl))) kNew) (fun q => nomatch q) (fun _ H1 e1 => ?_)
      obtain ⟨b, rfl, rfl, hb⟩ := hI.ex e1
      refine s_retL (xs := [.ref b]) (el_lcT (fun i => decide (i = 2)) (fun i => .ref b) (ev_var rfl) (st_of (e1 _ _ ht)) (by show 3 ≤ 40000; decide) (fun _ => rfl) (fun i x H2 e2 hx => ?_) (fun i x H2 e2 hx hi => ?_)) (fun q H2 hq e2 h2 => k q H2 (fresh_back e1 hq) (e1.trans e2) h2)
      · match i, hx with
        | 0, hx => cases hx; exact et_isPr rfl (fun _ _ => .base (.str n)) T.kStr
        | 1, hx => cases hx; exact et_isPr rfl (fun _ _ => .base (.int kk)) T.kInt
        | 2, hx => cases hx; exact et_isPr rfl (tyx_pr T (hb.ex e2)) kOwn
      · match i, hx, hi with
        | 2, hx, _ => cases hx; exact ev_var rfl
    | cond l r y n =>
      refine q_if (b := false) (et_is (et_test (ev_op (ev_var rfl) ev_c (rv_eq rfl))) kIf) (fun q => nomatch q) (fun _ H1 e1 => ?_)
      obtain ⟨b, c, rfl, rfl, hb, hc⟩ := hI.ex e1
      refine s_retL (xs := [.ref b, .ref c]) (el_lcT (fun i => decide (2 ≤ i)) (fun i => if i = 2 then .ref b else .ref c) (ev_var rfl) (st_of (e1 _ _ ht)) (by show 4 ≤ 40000; decide) (fun _ => rfl) (fun i x H2 e2 hx => ?_) (fun i x H2 e2 hx hi => ?_)) (fun q H2 hq e2 h2 => k q H2 (fresh_back e1 hq) (e1.trans e2) h2)
      · match i, hx with
        | 0, hx => cases hx; obtain ⟨t, h1, h2⟩ := tyx_opd T l; exact et_isPr rfl h1 h2
        | 1, hx => cases hx; obtain ⟨t, h1, h2⟩ := tyx_opd T r; exact et_isPr rfl h1 h2
        | 2, hx => cases hx; exact et_isPr rfl (tyx_pr T (hb.ex e2)) kOwn
        | 3, hx => cases hx; exact et_isPr rfl (tyx_pr T (hc.ex e2)) kOwn
      · match i, hx, hi with
        | 2, hx, _ => cases hx; exact ev_var rfl
        | 3, hx, _ => cases hx; exact ev_var rfl
    | call n ops =>
      refine q_if (b := false) (et_is (et_test (ev_op (ev_var rfl) ev_c (rv_eq rfl))) kCall) (fun q => nomatch q) (fun _ H1 e1 => ?_)
      obtain ⟨u, rfl, rfl, hu⟩ := hI.ex e1
      refine s_retL (xs := []) (el_lcT (fun i => false) (fun i => .non) (ev_var rfl) (st_of (e1 _ _ ht)) (by show 2 ≤ 40000; decide) (fun _ => rfl) (fun i x H2 e2 hx => ?_) (fun i x H2 e2 hx hi => nomatch hi)) (fun q H2 hq e2 h2 => k q H2 (fresh_back e1 hq) (e1.trans e2) h2)
      match i, hx with
      | 0, hx => cases hx; exact et_isPr rfl (fun _ _ => .base (.str n)) T.kStr
      | 1, hx => cases hx; exact et_isPr rfl (fun H3 e3 => .base (.tup (e3 _ _ (e2 _ _ hu)))) T.kTup
end
end Fs

set_option Elab.async false
set_option linter.all false
set_option maxRecDepth 100000
set_option maxHeartbeats 2000000
namespace Fs
open PySem L2 Evl FsE FsC FsR
def spSize (C : Addr) (f : Pr → Int) : Sp := fun vs H Q _ => ∃ (p : Pr) (t : Addr) (ps : List V), vs = [.str p.kind, .ref t] ∧ H t = some (.tup ps) ∧ ps.length ≤ 100 ∧ PartsAt C H ps p ∧ RetV (.int (f p)) H Q
theorem sp_size {C : Addr} {f : Pr → Int} {p : Pr} {t : Addr} {ps : List V} {H : Hp} (h1 : H t = some (.tup ps)) (h2 : ps.length ≤ 100) (h3 : PartsAt C H ps p) : SpV (spSize C f) [.str p.kind, .ref t] H (.int (f p)) := fun H1 e Q q E =>
  ⟨p, t, ps, rfl, e _ _ h1, h2, h3.ex e, q⟩
theorem hu2_of {A : Around} {k : Nat} (hr : Room k A) : A.units + 1 + 1 < cLine := Nat.lt_of_le_of_lt (by omega : A.units + 1 + 1 ≤ A.units + 64) hr.units
theorem kCh : decide (V.str "choice" = V.str "choice") = true := by decide +kernel
section
variable {P : Program} {w : World} {K : PySem.W.Frag} {mg : Str → Option Value} {base : Heap} {C CB : Addr}
theorem InnOf.short {H : Hp} {ps rs : List V} {p : Pr} (h : InnOf C H ps rs p) (hl : ps.length ≤ 100) : rs.length ≤ 100 := by
  cases p with
  | choice os =>
    have := h.1
    omega
  | new n k r =>
    obtain ⟨b, _, rfl, _⟩ := h
    show 1 ≤ 100
    decide
  | cond l r y n =>
    obtain ⟨b, c, _, rfl, _⟩ := h
    show 2 ≤ 100
    decide
  | call n ops =>
    obtain ⟨u, _, rfl, _⟩ := h
    show 0 ≤ 100
    decide
/-- [process.f for process in (the list)] -/
theorem el_flds {σ : L2.St} {H : Hp} {tl : TE} {j : Nat} {vs : List Nat} {rs : List V} {ps : List Pr} {f : Str} {g : Pr → Int} (hf : ∀ {H : Hp} {a : Addr} {p : Pr}, PrAt C H a p → ∃ dx fs, H a = some (.ins C dx fs) ∧ fs.lookup f = some (.int (g p)))
    (cl : Cls K C) (n : NoAttr K C f) (h : EvL tl σ H rs) (hl : rs.length ≤ 100) (hi : InnAt C H rs ps) (hw : ∀ x, wipe ((wipe σ vs).set j (some x)) vs = wipe σ vs) (hj : ∀ x, ((wipe σ vs).set j (some x))[j]? = some (some x)) :
    EvL (tLc (iList K tl) (gName j) tYes (tFld K (tVar j) f) vs) σ H ((ps.map g).map V.int) := by
  refine el_lcNLy h (by omega) hw (by rw [List.length_map, List.length_map, hi.length]) (fun i x y H1 e hx hy => ?_)
  obtain ⟨a, p, rfl, hp, hps⟩ := InnAt.at_ (hi.ex e) hx
  obtain ⟨dx, fs, h1, h2⟩ := hf hp
  have ey : y = .int (g p) := by
    rw [List.getElem?_map, List.getElem?_map, hps] at hy
    exact (Option.some.inj hy).symm
  subst ey
  exact ev_fld (ev_var (hj _)) h1 cl n h2
theorem fld_depth {H : Hp} {a : Addr} {p : Pr} (h : PrAt C H a p) : ∃ dx fs, H a = some (.ins C dx fs) ∧ fs.lookup ("depth" : Str) = some (.int p.depth) := by
  obtain ⟨t, ps, ⟨dx, h1⟩, _⟩ := h.out
  exact ⟨dx, _, h1, pf_depth⟩
theorem fld_size {H : Hp} {a : Addr} {p : Pr} (h : PrAt C H a p) : ∃ dx fs, H a = some (.ins C dx fs) ∧ fs.lookup ("size" : Str) = some (.int p.size) := by
  obtain ⟨t, ps, ⟨dx, h1⟩, _⟩ := h.out
  exact ⟨dx, _, h1, pf_size⟩
theorem scDepth : FnScope ["kind", "parts", "process"] ["kind", "parts"] (defScope (topS 35)) := ⟨rfl, rfl, rfl, by decide +kernel, rfl, by decide +kernel, by decide +kernel⟩
theorem ok_depth {f : Addr} {fd : FuncData} (F : Fun K "depth_of" "depth_of" (topS 35) f fd) (T : TerT K mg C CB) (GI : CalX P w K mg base CX0 1 "inner_processes" (spInner C)) : FnOk P w K mg base CX0 2 f fd ["kind", "parts"] (spSize C Pr.depth) := by
  refine F.ok scDepth (fun vs H Q E h => ?_) (fun cdv A outer s H vs Q E hr h => ?_)
  · obtain ⟨p, t, ps, rfl, _⟩ := h
    rfl
  · obtain ⟨p, t, ps, rfl, ht, hl, hP, k⟩ := h
    obtain ⟨rs, hI⟩ := hP.inn
    refine ⟨_, pss_one (ps_ret (pe_op op_add pe_int (pe_callBK (ck_maxD rfl (hu2_of hr)) (by rfl) T.max (by decide +kernel) (pa_cons
      (pe_lc (own := [("process", 2)]) (g := gName 2) (tt := tYes) (te := tFld K (tVar 2) "depth") rfl scDepth.nd (pi_list (pe_cx (E := fun _ => E0) GI hr (by decide) (by rfl) at0 (pa_cons (pv 0) (pa_cons (pv 1) pa_nil)))) (blkOk_by (own := [("process", 2)]) (N := ["kind", "parts", "process"]) (sc := defScope (topS 35)) (by decide +kernel))
          (fun _ _ _ _ _ => pg_name (i := 2) scDepth.nd rfl (Or.inl rfl)) (fun _ _ _ _ _ => pts_nil) (fun _ _ _ _ _ => pe_fld (pv 2) rfl)) pa_nil) (pk_cons pe_int pk_nil)))), ?_⟩
    have g : Ev (tOp (rI0 fun i j => .int (i + j)) (tC (.int 1)) (tCKw (FsR.rMaxD K) (tCons (tLc (iList K (tCallS (spInner C) (fun _ => E0) (tCons (tVar 0) (tCons (tVar 1) tNil)))) (gName 2) tYes (tFld K (tVar 2) "depth") [2]) tNil) (tCons (tC (.int 0)) tNil)))
        (start ["kind", "parts", "process"] [.str p.kind, .ref t]) H (.int (1 + maxDef 0 (p.inner.map Pr.depth))) :=
      ev_op ev_c (ev_maxD (el_flds (fun h => fld_depth h) T.cl T.nD (el_cx (ea_cons (ev_var rfl) (ea_cons (ev_var rfl) ea_nil)) (sp_inner ht hl hI)) (hI.short hl) hI.at (fun _ => rfl) (fun _ => rfl))) rv_I0
    rw [Pr.depth_eq] at g
    exact s_ret g k
theorem scSize : FnScope ["kind", "parts", "own", "process"] ["kind", "parts"] (defScope (topS 34)) := ⟨rfl, rfl, rfl, by decide +kernel, rfl, by decide +kernel, by decide +kernel⟩
theorem own_eq {H : Hp} {ps : List V} {p : Pr} (h : PartsAt C H ps p) : p.own = if decide (V.str p.kind = V.str "choice") = true then (if ((ps.length : Nat) : Int) > 1 then ((ps.length : Nat) : Int) else 1) else 1 := by
  cases p with
  | choice os =>
    rw [if_pos (show decide (V.str (Pr.choice os).kind = V.str "choice") = true from kCh)]
    show max 1 (os.len : Int) = _
    rw [OfsAt.len h]
    by_cases q : ((os.len : Nat) : Int) > 1
    · rw [if_pos q]
      omega
    · rw [if_neg q]
      omega
  | new n k r =>
    rw [show decide (V.str (Pr.new n k r).kind = V.str "choice") = false from kNew]
    rfl
  | cond l r y n =>
    rw [show decide (V.str (Pr.cond l r y n).kind = V.str "choice") = false from kIf]
    rfl
  | call n ops =>
    rw [show decide (V.str (Pr.call n ops).kind = V.str "choice") = false from kCall]
    rfl
theorem ok_size {f : Addr} {fd : FuncData} (F : Fun K "size_of" "size_of" (topS 34) f fd) (B : BasT K mg) (T : TerT K mg C CB) (GI : CalX P w K mg base CX0 1 "inner_processes" (spInner C)) : FnOk P w K mg base CX0 2 f fd ["kind", "parts"] (spSize C Pr.size) := by
  refine F.ok scSize (fun vs H Q E h => ?_) (fun cdv A outer s H vs Q E hr h => ?_)
  · obtain ⟨p, t, ps, rfl, _⟩ := h
    rfl
  · obtain ⟨p, t, ps, rfl, ht, hl, hP, k⟩ := h
    obtain ⟨rs, hI⟩ := hP.inn
    refine ⟨_, pss_cons (ps_set (i := 2) scSize.nd rfl (Or.inl rfl) (pe_ifExp (pt_cmpR op_eq (pv 0) pe_str (nomark _)) (pe_callB (call_max2 rfl) (by rfl) T.max (by decide +kernel) (pa_cons pe_int (pa_cons (pe_callB call_len_seq (by rfl) B.len PySem.boot_len (pa_cons (pv 1) pa_nil)) pa_nil))) pe_int))
      (pss_one (ps_ret (pe_op op_add (pv 2) (pe_callB (cr_sum rfl) (by rfl) T.sum (by decide +kernel) (pa_cons
      (pe_lc (own := [("process", 3)]) (g := gName 3) (tt := tYes) (te := tFld K (tVar 3) "size") rfl scSize.nd (pi_list (pe_cx (E := fun _ => E0) GI hr (by decide) (by rfl) at0 (pa_cons (pv 0) (pa_cons (pv 1) pa_nil)))) (blkOk_by (own := [("process", 3)]) (N := ["kind", "parts", "own", "process"]) (sc := defScope (topS 34)) (by decide +kernel))
          (fun _ _ _ _ _ => pg_name (i := 3) scSize.nd rfl (Or.inl rfl)) (fun _ _ _ _ _ => pts_nil) (fun _ _ _ _ _ => pe_fld (pv 3) rfl)) pa_nil))))), ?_⟩
    refine q_asg (v := .int p.own) (ev_if (b := decide (V.str p.kind = V.str "choice")) (et_test (ev_op (ev_var rfl) ev_c (rv_eq rfl))) (fun hb => ?_) (fun hb => ?_)) (fun H1 e1 => ?_)
    · have q := ev_max2 (σ := start ["kind", "parts", "own", "process"] [.str p.kind, .ref t]) (H := H) (ta := tC (.int 1)) (i := 1) (j := ((ps.length : Nat) : Int)) ev_c (ev_lenT (K := K) (ta := tVar 1) (ev_var rfl) (st_of ht))
      rw [own_eq hP, if_pos hb]
      exact q
    · rw [own_eq hP, if_neg (by rw [hb]; decide)]
      exact ev_c
    · have g : Ev (tOp (rI0 fun i j => .int (i + j)) (tVar 2) (tCB (rSum K) (tCons (tLc (iList K (tCallS (spInner C) (fun _ => E0) (tCons (tVar 0) (tCons (tVar 1) tNil)))) (gName 3) tYes (tFld K (tVar 3) "size") [3]) tNil)))
          ((start ["kind", "parts", "own", "process"] [.str p.kind, .ref t]).set 2 (some (.int p.own))) H1 (.int (p.own + (p.inner.map Pr.size).sum)) :=
        ev_op (ev_var rfl) (ev_sum (el_flds (fun h => fld_size h) T.cl T.nS (el_cx (ea_cons (ev_var rfl) (ea_cons (ev_var rfl) ea_nil)) (sp_inner (e1 _ _ ht) hl (hI.ex e1))) (hI.short hl) (hI.at.ex e1) (fun _ => rfl) (fun _ => rfl))) rv_I0
      rw [Pr.size_eq] at g
      exact s_ret g (fun H2 e2 => k H2 (e1.trans e2))
end
end Fs

set_option Elab.async false
set_option linter.all false
set_option maxRecDepth 100000
set_option maxHeartbeats 2000000
namespace Fs
open PySem L2 Evl FsE FsC FsR
def badInit (p : Pr) : Option Str := if p.depth ≤ 20 then (if p.size ≤ 400 then none else some "size") else some "depth"
def spInit (C CB : Addr) : Sp := fun vs H Q E => ∃ (a dx : Addr) (p : Pr) (t : Addr) (ps : List V) (H0 : Hp), vs = [.ref a, .str p.kind, .ref t] ∧ H a = some (.ins C dx []) ∧ H0 a = none ∧ Ex H0 H ∧ H0 t = some (.tup ps) ∧ ps.length ≤ 100 ∧ PartsAt C H0 ps p ∧
  (badInit p = none → ∀ H', Ex H0 H' → H' a = some (.ins C dx (pFlds p.kind t p.depth p.size)) → Q .non H') ∧ (∀ f, badInit p = some f → Bad CB f H0 E)
section
variable {P : Program} {w : World} {K : PySem.W.Frag} {mg : Str → Option Value} {base : Heap} {C CB : Addr}
theorem q_fld {σ : L2.St} {H : Hp} {ta tv : TE} {a C dx : Addr} {fs : List (Str × V)} {f : Str} {v : V} {tz : TS} {D : Ends} (hv : Ev tv σ H v) (ho : Ev ta σ H (.ref a)) (hi : H a = some (.ins C dx fs)) (cl : Cls K C) (n : NoAttr K C f) (hl : fs.length < 1000)
    (k : ∀ H1, Ex H H1 → tz D σ (upd H1 a (.ins C dx (putF f v fs)))) : tSeq (sFld K ta tv f) tz D σ H :=
  hv H (Ex.refl H) _ fun H1 e1 => ho H1 e1 _ fun H2 e2 => ⟨a, C, dx, fs, rfl, (e1.trans e2) _ _ hi, cl, n, hl, k H2 (e1.trans e2)⟩
theorem scInit : FnScope ["self", "kind", "parts"] ["self", "kind", "parts"] (defScope (inClass (topS 36) 0)) := ⟨rfl, rfl, rfl, by decide +kernel, rfl, by decide +kernel, by decide +kernel⟩
theorem putF_len (f : Str) (v : V) : ∀ fs : List (Str × V), (putF f v fs).length ≤ fs.length + 1
  | [] => by
    show 1 ≤ 0 + 1
    decide
  | (g, x) :: fs => by
    have ih := putF_len f v fs
    show (if g = f then (g, v) :: fs else (g, x) :: putF f v fs).length ≤ _
    by_cases h : g = f
    · rw [if_pos h]
      simp
    · rw [if_neg h]
      simp only [List.length_cons]
      omega
theorem ok_init {f : Addr} {fd : FuncData} {k : Nat} (F : Fun K "__init__" "Process.__init__" (inClass (topS 36) 0) f fd) (T : TerT K mg C CB) (GD : CalX P w K mg base CX0 2 "depth_of" (spSize C Pr.depth)) (GS : CalX P w K mg base CX0 2 "size_of" (spSize C Pr.size))
    (GM : CalX P w K mg base (L2.CX P w) k "demand" (spDemand CB)) (hk : 2 ≤ k) : FnOk P w K mg base (L2.CX P w) (k + 1) f fd ["self", "kind", "parts"] (spInit C CB) := by
  refine F.okX scInit (fun vs H Q E h => ?_) (fun cdv A outer s H vs Q E hr h => ?_)
  · obtain ⟨a, dx, p, t, ps, H0, rfl, _⟩ := h
    rfl
  · obtain ⟨a, dx, p, t, ps, H0, rfl, ha, hna, e0, ht, hl, hP, k1, k2⟩ := h
    refine ⟨_, pss_cons (ps_fld (pv 0) (pv 1) rfl) (pss_cons (ps_fld (pv 0) (pv 2) rfl)
      (pss_cons (ps_fld (pv 0) (pe_cx (E := fun _ => E0) GD hr hk (by rfl) at0 (pa_cons (pv 1) (pa_cons (pv 2) pa_nil))) rfl)
      (pss_cons (ps_fld (pv 0) (pe_cx (E := fun _ => E0) GS hr hk (by rfl) at0 (pa_cons (pv 1) (pa_cons (pv 2) pa_nil))) rfl)
      (pss_cons (ps_expr (pe_cx (E := WE (fun cls d _ H => E cls d H)) GM hr (Nat.le_refl _) (by rfl) (fun σ => passAt (takes_of rfl rfl rfl rfl) σ) (pa_cons (pe_cmpR op_le (pe_fld (pv 0) rfl) (C8.pe_gc (by rfl) T.depth) (nomark _)) (pa_cons pe_str pa_nil))))
      (pss_one (ps_expr (pe_cx (E := WE (fun cls d _ H => E cls d H)) GM hr (Nat.le_refl _) (by rfl) (fun σ => passAt (takes_of rfl rfl rfl rfl) σ) (pa_cons (pe_cmpR op_le (pe_fld (pv 0) rfl) (C8.pe_gc (by rfl) T.size) (nomark _)) (pa_cons pe_str pa_nil))))))))), ?_⟩
    refine q_fld (ev_var rfl) (ev_var rfl) ha T.cl T.nK (by show 0 < 1000; decide) (fun H1 e1 => ?_)
    have x1 : Ex H0 (upd H1 a (.ins C dx (putF "kind" (.str p.kind) []))) := Ex.mut (e0.trans e1) hna
    refine q_fld (ev_var rfl) (ev_var rfl) upd_same T.cl T.nP (by have := putF_len "kind" (.str p.kind) []; simp only [List.length_nil] at this; omega) (fun H2 e2 => ?_)
    have x2 : Ex H0 (upd H2 a (.ins C dx (putF "parts" (.ref t) (putF "kind" (.str p.kind) [])))) := Ex.mut (x1.trans e2) hna
    refine q_fld (ev_cx (ea_cons (ev_var rfl) (ea_cons (ev_var rfl) ea_nil)) (sp_size (x2 _ _ ht) hl (hP.ex x2))) (ev_var rfl) upd_same T.cl T.nD (by have h1 := putF_len "kind" (.str p.kind) []; have h2 := putF_len "parts" (.ref t) (putF "kind" (.str p.kind) []); simp only [List.length_nil] at h1; omega) (fun H3 e3 => ?_)
    have x3 : Ex H0 (upd H3 a (.ins C dx (putF "depth" (.int p.depth) (putF "parts" (.ref t) (putF "kind" (.str p.kind) []))))) := Ex.mut (x2.trans e3) hna
    refine q_fld (ev_cx (ea_cons (ev_var rfl) (ea_cons (ev_var rfl) ea_nil)) (sp_size (x3 _ _ ht) hl (hP.ex x3))) (ev_var rfl) upd_same T.cl T.nS (by have h1 := putF_len "kind" (.str p.kind) []; have h2 := putF_len "parts" (.ref t) (putF "kind" (.str p.kind) []); have h3 := putF_len "depth" (.int p.depth) (putF "parts" (.ref t) (putF "kind" (.str p.kind) [])); simp only [List.length_nil] at h1; omega) (fun H4 e4 => ?_)
    have x4 : Ex H0 (upd H4 a (.ins C dx (pFlds p.kind t p.depth p.size))) := Ex.mut (x3.trans e4) hna
    have h4 : (upd H4 a (.ins C dx (pFlds p.kind t p.depth p.size))) a = some (.ins C dx (pFlds p.kind t p.depth p.size)) := upd_same
    refine q_demand (by decide +kernel) (ev_op (ev_fld (ev_var rfl) h4 T.cl T.nD pf_depth) ev_c rv_I0) (fun hb H5 e5 => ?_) (fun hb => ?_)
    · have hd : p.depth ≤ 20 := by simpa using hb
      refine s_demand (by decide +kernel) (ev_op (ev_fld (ev_var rfl) (e5 _ _ h4) T.cl T.nS pf_size) ev_c rv_I0) (fun hb2 H6 e6 => ?_) (fun hb2 => ?_)
      · have hs : p.size ≤ 400 := by simpa using hb2
        exact k1 (by unfold badInit; rw [if_pos hd, if_pos hs]) H6 ((x4.trans e5).trans e6) ((e5.trans e6) _ _ h4)
      · have hs : ¬ p.size ≤ 400 := by simpa using hb2
        exact (k2 "size" (by unfold badInit; rw [if_pos hd, if_neg hs])).ex (x4.trans e5)
    · have hd : ¬ p.depth ≤ 20 := by simpa using hb
      exact (k2 "depth" (by unfold badInit; rw [if_neg hd])).ex x4
/-- what a maker gives: the process, or the field that is refused -/
def Made (C CB : Addr) (o : Option Str) (p : Pr) (H : Hp) (Q : VK) (E : XK) : Prop :=
  (o = none → ∀ a H', H a = none → Ex H H' → PrAt C H' a p → Q (.ref a) H') ∧ (∀ f, o = some f → Bad CB f H E)
theorem Made.ex {o : Option Str} {p : Pr} {H H' : Hp} {Q : VK} {E : XK} (e : Ex H H') (h : Made C CB o p H Q E) : Made C CB o p H' Q E :=
  ⟨fun ho a H2 ha e2 hp => h.1 ho a H2 (fresh_back e ha) (e.trans e2) hp, fun f hf => (h.2 f hf).ex e⟩
/-- a tuple that holds the parts of p -/
def EvP (C : Addr) (tp : TE) (σ : L2.St) (H : Hp) (p : Pr) : Prop := ∀ H1, Ex H H1 → ∀ Q : VK, (∀ t H2 ps, H1 t = none → Ex H1 H2 → H2 t = some (.tup ps) → ps.length ≤ 100 → PartsAt C H2 ps p → Q (.ref t) H2) → tp σ H1 Q
theorem EvP.of {σ : L2.St} {H : Hp} {tp : TE} {p : Pr} {ps : List V} (h : EvU tp σ H ps) (hl : ps.length ≤ 100) (hP : PartsAt C H ps p) : EvP C tp σ H p := fun H1 e Q q => h H1 e Q fun t H2 ht e2 h2 => q t H2 ps ht e2 h2 hl (hP.ex (e.trans e2))
/-- Process(kind, parts) -/
theorem ret_make {σ : L2.St} {H : Hp} {tk tp : TE} {p : Pr} {D : Ends} {E : XK} (hkd : Ev tk σ H (.str p.kind)) (hp : EvP C tp σ H p) (m : Made C CB (badInit p) p H D.rt E) :
    tRet (tMake C (spInit C CB) [] E (tCons tk (tCons tp tNil))) D σ H :=
  hkd H (Ex.refl H) _ fun H1 e1 => hp H1 e1 _ fun t H2 ps ht e2 h2 hl hP => fun x dx hx hdx hne => by
    have x0 : Ex H2 (upd (upd H2 dx (.own x)) x (.ins C dx [])) := by
      intro b o hb
      rw [upd_ne (ne_of_none hb hx), upd_ne (ne_of_none hb hdx)]
      exact hb
    refine ⟨x, dx, p, t, ps, H2, rfl, upd_same, hx, x0, h2, hl, hP, fun hb H' e' h' => ⟨rfl, ?_⟩, fun f hf => ((m.2 f hf).ex (e1.trans e2))⟩
    exact m.1 hb x H' (fresh_back (e1.trans e2) hx) ((e1.trans e2).trans e') (PrAt.mk ⟨dx, h'⟩ (e' _ _ h2) (hP.ex e'))
end
end Fs

set_option Elab.async false
set_option linter.all false
set_option maxRecDepth 100000
set_option maxHeartbeats 4000000
/-! set(xs), xs a list or a tuple of texts: how many there are tells whether they all differ. -/
namespace FsT
open PySem PySem.Spec PyProof.Rows
/-- c of the first i texts differ; all of them just when none stands twice -/
structure Few (xs : List Str) (i c : Nat) : Prop where
  le : c ≤ i
  all : c = i ↔ (xs.take i).Nodup
theorem nodup_snoc {l : List Str} {z : Str} : (l ++ [z]).Nodup ↔ l.Nodup ∧ z ∉ l := by
  rw [List.nodup_append]
  constructor
  · intro h
    exact ⟨h.1, fun hz => h.2.2 z hz z (List.mem_singleton.mpr rfl) rfl⟩
  · intro h
    refine ⟨h.1, by simp, fun a ha b hb e => ?_⟩
    rw [List.mem_singleton.mp hb] at e
    exact h.2 (e ▸ ha)
theorem Few.step {xs : List Str} {i c : Nat} {z : Str} (f : Few xs i c) (hz : xs[i]? = some z) : Few xs (i + 1) (if decide (z ∈ xs.take i) = true then c else c + 1) := by
  have e : xs.take (i + 1) = xs.take i ++ [z] := by
    rw [List.take_add_one, hz]
    rfl
  have h1 := f.le
  have h2 := f.all
  by_cases h : z ∈ xs.take i
  · rw [if_pos (decide_eq_true h)]
    refine ⟨by omega, ⟨fun q => absurd q (by omega), fun q => ?_⟩⟩
    rw [e, nodup_snoc] at q
    exact absurd h q.2
  · rw [if_neg (by rw [decide_eq_false h]; decide)]
    refine ⟨by omega, ?_⟩
    rw [e, nodup_snoc]
    constructor
    · intro q
      exact ⟨h2.mp (by omega), h⟩
    · intro q
      have := h2.mpr q.1
      omega
section
variable {P : Program} {w : World} {A : Around} {R : Result → Shared → Prop} {I S : Addr} {fp wr : List Addr} {G : Array GenState → Array GenState → Prop} {n : Nat} {Pv : Nat → Value → Prop} {St : Nat → Shared → Prop}
/-- one text after the other into the set at S -/
theorem tx_loop (W : WalksS P w A.in1 I fp wr G n Pv St) (hS : S ∉ fp) {xs : List Str} (hn : n ≤ 2000) (hv : ∀ i v, Pv i v → ∃ z t, xs[i]? = some z ∧ v = .str z t) (R0 : ∀ s' c, Moved (S :: wr) G s0 s' → Few xs n c → s'.heap.SetOf (PySem.strKind P w) S (fun k => decide (k ∈ xs.take n)) c → R (.ok (.ret .none)) s') :
    ∀ (m i : Nat) (s : Shared), i + m = n → St i s → Moved (S :: wr) G s0 s → (∃ c, Few xs i c ∧ s.heap.SetOf (PySem.strKind P w) S (fun k => decide (k ∈ xs.take i)) c) → codeAny (model P w) A (.builtin "set.update.loop" ⟨[.ref S, .ref I], []⟩) R s := by
  have out : S ∉ wr := fun z => hS (W.sub _ z)
  have up : ∀ b ∈ wr, b ∈ S :: wr := fun b => List.mem_cons_of_mem _
  have stay : ∀ {u u' : Shared} {q : Str → Bool} {c : Nat}, Moved wr G u u' → u.heap.SetOf (PySem.strKind P w) S q c → u'.heap.SetOf (PySem.strKind P w) S q c := fun mv ⟨o, es, ep, t, ho, r⟩ => ⟨o, es, ep, t, mv.heap S o out ho, r⟩
  intro m
  induction m with
  | zero =>
    intro i s him hst mv0 ⟨c, fw, so⟩
    have hi : i = n := by omega
    subst hi
    refine codeAny_builtin PyProof.Rows.F.entry_set_update_loop ?_
    rw [Around.under_plainId F.plain_set_update_loop]
    show wpAny _ _ (pyNext (.ref I) >>= fun _ => _) _ _ s
    exact wpAny_bind (W.done s _ _ hst fun s' mv => wpAny_pure (R0 s' c (Moved.trans W.gtrans mv0 (mv.mono up)) fw (stay mv so)))
  | succ m ih =>
    intro i s him hst mv0 ⟨c, fw, so⟩
    refine codeAny_builtin PyProof.Rows.F.entry_set_update_loop ?_
    rw [Around.under_plainId F.plain_set_update_loop]
    show wpAny _ _ (pyNext (.ref I) >>= fun _ => _) _ _ s
    refine wpAny_bind (W.item i s _ _ (by omega) hst fun v s1 hp hst1 mv => ?_)
    obtain ⟨z, t, hz, rfl⟩ := hv i v hp
    show wpAny _ _ (holding [Value.str z t] (setAdd S (.str z t)) >>= fun _ => _) _ _ s1
    unfold setAdd
    refine wpAny_bind (wpAny_holding (wpAny_holding (wpAny_bind ((PySem.strKind P w).pyHash (strKind_is P w z t) ?_))))
    have c0 := fw.le
    have so1 := stay mv so
    refine wpAny_setAddHashed_of (s := { s1 with toks := s1.toks + 1 }) (strKind_is P w z t) rfl so1 (by show c + 1 < 4096; omega) fun h' but so2 => ?_
    have so3 : h'.SetOf (PySem.strKind P w) S (fun k => decide (k ∈ xs.take (i + 1))) (if decide (z ∈ xs.take i) = true then c else c + 1) := SetOf_congr so2 (fun k => by
      rw [List.take_add_one, hz]
      simp [List.mem_append]) rfl
    refine wpAny_pure ⟨plainId_quiet F.plain_set_update_loop _, ih (i + 1) _ (by omega) (W.frame (i + 1) s1 h' _ hst1 (Nat.le_succ _) fun b hb o ho => ?_) ?_ ⟨_, fw.step hz, so3⟩⟩
    · exact (but.2 b fun z => hS (z ▸ hb)).trans ho
    · refine Moved.trans W.gtrans mv0 ((mv.mono up).then_heap (Nat.le_succ _) fun b o hb ho => ?_)
      exact (but.2 b fun z => hb (z ▸ List.mem_cons_self ..)).trans ho
end
section
variable {P : Program} {w : World} {A : Around} {E : Value → Shared → Prop} {s : Shared}
/-- what set() reads: a list, a tuple -/
structure Feed (P : Program) (w : World) (T iT : String) (items : Array Value) (nl : Nat) (od : Option Addr) (sl : Array (Option Value)) (l : Addr) : Prop where
  s1 : isSubtype (Value.type T) (Value.type "set") = pure false
  s2 : isSubtype (Value.type T) (Value.type "frozenset") = pure false
  nd : (Value.type T == Value.type "dict") = false
  it : ∀ (A' : Around) (E' : Value → Shared → Prop) (u : Shared) (Q' : Value → Shared → Prop), u.heap.get? l = some { cls := .type T, dict := od, data := .seq items nl, slots := sl } →
    Q' (.ref u.heap.objs.size) { u with heap := u.heap.push { cls := .type iT, data := .fields #[.ref l, .int 0 0] } } → wpAny (model P w) A' (pyIter (.ref l)) Q' E' u
  wk : ∀ (A' : Around) (I : Addr), A'.handled = none → l ≠ I → ∃ St : Nat → Shared → Prop, WalksS P w A' I [I, l] [I] (fun a b => b = a) items.size (fun i v => items[i]? = some v) St ∧
    ∀ u : Shared, u.heap.get? I = some { cls := .type iT, data := .fields #[.ref l, .int 0 0] } → u.heap.get? l = some { cls := .type T, dict := od, data := .seq items nl, slots := sl } → St 0 u
theorem feed_list {items : Array Value} {nl : Nat} {od : Option Addr} {sl : Array (Option Value)} {l : Addr} : Feed P w "list" "list_iterator" items nl od sl l :=
  ⟨PySem.F.sub_list_set, PySem.F.sub_list_frozenset, by decide, fun _ _ _ _ h q => wpAny_pyIter_list ⟨_, h, rfl, nl, rfl⟩ q, fun A' I ha ne => ⟨_, (Walks.list ha I l ne items).toS, fun u h1 h2 => ⟨⟨_, h1, rfl, rfl⟩, ⟨_, h2, rfl, nl, rfl⟩⟩⟩⟩
theorem feed_tup {items : Array Value} {nl : Nat} {od : Option Addr} {sl : Array (Option Value)} {l : Addr} : Feed P w "tuple" "tuple_iterator" items nl od sl l :=
  ⟨PySem.F.sub_tuple_set, PySem.F.sub_tuple_frozenset, by decide, fun _ _ _ _ h q => wpAny_pyIter_tuple ⟨_, h, rfl, nl, rfl⟩ q, fun A' I ha ne => ⟨_, (Walks.tuple ha I l ne items).toS, fun u h1 h2 => ⟨⟨_, h1, rfl, rfl⟩, ⟨_, h2, rfl, nl, rfl⟩⟩⟩⟩
/-- set(l) -/
theorem tx_call {T iT : String} {items : Array Value} {nl : Nat} {od : Option Addr} {sl : Array (Option Value)} {l : Addr} {xs : List Str} {Q : Value → Shared → Prop} (D : Feed P w T iT items nl od sl l) (ha : A.handled = none)
    (ho : s.heap.get? l = some { cls := .type T, dict := od, data := .seq items nl, slots := sl }) (hx : StrsAre items.toList xs) (hl : xs.length ≤ 2000)
    (hq : ∀ h' tk c, Few xs xs.length c → h'.SetOf (PySem.strKind P w) s.heap.objs.size (fun k => decide (k ∈ xs)) c → (∀ b o, s.heap.get? b = some o → h'.get? b = some o) → Q (.ref s.heap.objs.size) { s with heap := h', toks := tk }) :
    wpAny (model P w) A (call (.type "set") [.ref l]) Q E s := by
  have cs := PySem.F.called_set
  obtain ⟨cc, rest, mro0⟩ := cs.mro
  have made0 := cs.made
  have sub0 := cs.sub
  refine wpAny_call (codeAny_of_tree ?_)
  show wpAny _ _ (callAny (.type "set") { pos := [.ref l] }) _ _ _
  refine wpAny_pure ⟨Code.quiet_builtin _ (by decide +kernel), codeAny_builtin PySem.F.entry_type_call ?_⟩
  rw [Around.under_plain (weight_type_call_type "set" [Value.ref l] []) rfl]
  have nt0 := cs.notType
  have cr0 := cs.canCreate
  have tc0 := PySem.F.typeCall_set_1 (Value.ref l)
  repeat (any_goals (first | assumption | wp_step))
  refine codeAny_mono (code_set_new_1 (Value.ref l) (E := E) (Q₁ := fun v u => ∃ b : Bool, v = .ref s.heap.objs.size ∧ u = { s with heap := s.heap.push { cls := .type "set", data := .set #[] 0 (.fresh 0 0 b) } }) (fun b => ⟨b, rfl, rfl⟩)) (fun r u hr => ?_)
  match r, hr with
  | .error _, hr => exact hr
  | .ok .next, hr => exact hr.elim
  | .ok .brk, hr => exact hr.elim
  | .ok .cont, hr => exact hr.elim
  | .ok (.ret v), hr =>
    obtain ⟨b, rfl, rfl⟩ := hr
    have at0 : (s.heap.push { cls := .type "set", data := .set #[] 0 (.fresh 0 0 b) }).get? s.heap.objs.size = some { cls := .type "set", data := .set #[] 0 (.fresh 0 0 b) } := Heap.get?_push_size _ rfl
    have ty0 : Shared.TypeIs { s with heap := s.heap.push { cls := .type "set", data := .set #[] 0 (.fresh 0 0 b) } } (.ref s.heap.objs.size) "set" := ⟨_, at0, rfl⟩
    have look0 := cs.init.lookup
    have bind0 := cs.init.bind (.ref s.heap.objs.size)
    repeat (any_goals (first | assumption | wp_step))
    refine codeAny_mono (codeAny_call_builtin (R := wants (fun v u => v = .none ∧ ∃ h' tk c, u = { s with heap := h', toks := tk } ∧ Few xs xs.length c ∧ h'.SetOf (PySem.strKind P w) s.heap.objs.size (fun k => decide (k ∈ xs)) c ∧ ∀ b o, s.heap.get? b = some o → h'.get? b = some o) E)
      cs.init.plain PySem.F.entry_set_init (check_set_init_1 ty0 ?_)) (fun r2 u2 hr2 => ?_)
    · have ho1 : (s.heap.push { cls := .type "set", data := .set #[] 0 (.fresh 0 0 b) }).get? l = some { cls := .type T, dict := od, data := .seq items nl, slots := sl } := Heap.get?_push_of_some _ ho
      have d1 := D.s1
      have d2 := D.s2
      have d3 := D.nd
      unfold Builtin.«set.__init__» noKeywords Builtin.Frozenset.updateFrom
      generalize hI : pyIter = IT
      wp_walk
      subst hI
      have nx : items.size = xs.length := by
        have e := StrsAre.len_eq hx
        rw [Array.length_toList] at e
        exact e
      have ls : l < s.heap.objs.size := Heap.lt_size ho
      have sz1 : (s.heap.push { cls := .type "set", data := .set #[] 0 (.fresh 0 0 b) }).objs.size = s.heap.objs.size + 1 := Heap.size_push ..
      have n1 : l ≠ s.heap.objs.size + 1 := Nat.ne_of_lt (Nat.lt_succ_of_lt ls)
      have n2 : s.heap.objs.size ≠ s.heap.objs.size + 1 := Nat.ne_of_lt (Nat.lt_succ_self _)
      have n3 : s.heap.objs.size ≠ l := (Nat.ne_of_lt ls).symm
      refine D.it _ _ _ _ ho1 (wpAny_bind (wpAny_runValue ?_))
      have at1 : ((s.heap.push { cls := .type "set", data := .set #[] 0 (.fresh 0 0 b) }).push { cls := .type iT, data := .fields #[.ref l, .int 0 0] }).get? s.heap.objs.size = some { cls := .type "set", data := .set #[] 0 (.fresh 0 0 b) } := Heap.get?_push_of_some _ at0
      obtain ⟨St, wk, st0⟩ := D.wk A.in1.in1.in1 (s.heap.push { cls := .type "set", data := .set #[] 0 (.fresh 0 0 b) }).objs.size (by simp [ha]) (by rw [sz1]; exact n1)
      refine tx_loop (s0 := { s with heap := (s.heap.push { cls := .type "set", data := .set #[] 0 (.fresh 0 0 b) }).push { cls := .type iT, data := .fields #[.ref l, .int 0 0] } }) wk (by
          simp only [List.mem_cons, List.not_mem_nil, or_false, not_or]
          exact ⟨by rw [sz1]; exact n2, n3⟩) (xs := xs) (by omega) (fun i v hv => ?_) (fun u c mv fw so => ?_) items.size 0 _ (Nat.zero_add _) (st0 _ (Heap.get?_push_size _ rfl) (Heap.get?_push_of_some _ ho1)) ⟨fun _ _ _ e => e, rfl, rfl, rfl, Nat.le_refl _⟩
        ⟨0, ⟨Nat.le_refl _, by simp⟩, SetOf_congr ((setObjOf_fresh (knd := PySem.strKind P w) b).setOf at1 (by show 0 < 4096; decide)) (fun k => by simp) rfl⟩
      · obtain ⟨t, e⟩ := SS.strs_at hx i v (by rw [Array.getElem?_toList]; exact hv)
        have hi : i < xs.length := by
          rw [← nx]
          exact (Array.getElem?_eq_some_iff.mp hv).1
        exact ⟨xs[i], t, List.getElem?_eq_getElem hi, by rw [e, List.getD_eq_getElem?_getD, List.getElem?_eq_getElem hi]; rfl⟩
      · obtain ⟨h2, g2, d2, t2, o2⟩ := u
        obtain rfl : g2 = s.gens := mv.gens
        obtain rfl : d2 = s.drawn := mv.drawn
        obtain rfl : o2 = s.os := mv.os
        rw [nx] at fw so
        rw [List.take_length] at so
        refine wpAny_pure ?_
        show wpAny _ _ (ret Value.none) _ _ _
        refine wpAny_pure ⟨rfl, h2, t2, c, rfl, fw, so, fun d o e => ?_⟩
        have dl : d < s.heap.objs.size := Heap.lt_size e
        exact mv.heap d o (by
          simp only [List.mem_cons, List.not_mem_nil, or_false, not_or]
          exact ⟨Nat.ne_of_lt dl, by rw [sz1]; exact Nat.ne_of_lt (Nat.lt_succ_of_lt dl)⟩) (Heap.get?_push_of_some _ (Heap.get?_push_of_some _ e))
    · match r2, hr2 with
      | .error _, hr2 => exact hr2
      | .ok .next, hr2 => exact hr2.elim
      | .ok .brk, hr2 => exact hr2.elim
      | .ok .cont, hr2 => exact hr2.elim
      | .ok (.ret v), hr2 =>
        obtain ⟨rfl, h', tk, c, rfl, fw, so, kp⟩ := hr2
        repeat (any_goals (first | assumption | wp_step))
        exact hq h' tk c fw so kp
end
end FsT

set_option Elab.async false
set_option linter.all false
set_option maxRecDepth 100000
set_option maxHeartbeats 2000000
namespace FsR
open PySem PySem.Spec PyProof.Rows L2 FsT
/-- len(set(xs)), xs a list or a tuple of texts -/
def tLenTx (K : PySem.W.Frag) (ta : TE) : TE := fun σ H Q => ta σ H fun x H1 => ∃ (l : Addr) (xs : List Str), x = .ref l ∧ (SqL K H1 l (xs.map V.str) ∨ SqT K H1 l (xs.map V.str)) ∧ xs.length ≤ 2000 ∧ ∀ c, Few xs xs.length c → Q (.int (c : Nat)) H1
theorem pe_lenTx {X : Cx} {a : Expr} {ta : TE} {p p2 q pos : Pos} (hc : X.calm = true) (hg : Gl X "len") (hm : X.mg "len" = none) (hg2 : Gl X "set") (hm2 : X.mg "set" = none) (ha : PE X a ta)
    (na : starEach [a] X.env = (false, eval a X.env) :: starEach [] X.env := by rfl) : PE X (.Call (.Name "len" p) [.Call (.Name "set" p2) [a] [] q] [] pos) (tLenTx X.K ta) := by
  refine ⟨fun pins s σ H Q I h => Call_ (ld_blt I hg hm PySem.boot_len (callWith_builtin1 (args_cons (Call_ (ld_blt I hg2 hm2 boot_set (callWith_type1 (args_cons (thn (ha.run pins s σ H _ I h) fun v u ⟨x, H1, J, rx, l, xs, ex, hq, hl, k⟩ => args_nil ?_) na) na rfl))) rfl) rfl rfl))⟩
  subst ex
  obtain rfl : v = Value.ref l := rx
  have fin : ∀ (h' : Heap) (tk c : Nat), Few xs xs.length c → h'.SetOf (PySem.strKind X.prog X.w) u.heap.objs.size (fun k => decide (k ∈ xs)) c → (∀ b o, u.heap.get? b = some o → h'.get? b = some o) →
      wpAny (model X.prog X.w) X.A (spliced (backTo pos (starEach [] X.env))) (fun vs u2 => wpAny (model X.prog X.w) X.A (call (.builtin "len") (Value.ref u.heap.objs.size :: vs)) (EP X pins σ Q) X.xe u2) X.xe { u with heap := h', toks := tk } := fun h' tk c fw so kp => by
    refine args_nil ?_
    obtain ⟨o, es, ep, t, ho, hex, hd, _, _, hsm, hf, hn⟩ := so
    have J2 : Inv X pins σ H1 { u with heap := h', toks := tk } := J.kept kp
    have c0 := fw.le
    refine call_len_set ho hex hd hf (by rw [hn]; omega) ⟨.int (c : Nat), H1, J2.tok _, ⟨_, by rw [hn]⟩, k c fw⟩
  rcases hq with hq | hq
  · obtain ⟨its, r, pl, hz⟩ := J.list hq
    obtain ⟨⟨oc, od, dt, sl⟩, ho, e1, n, e2⟩ := pl.isList
    dsimp only at e1 e2
    subst e1 e2
    exact tx_call feed_list (J.ok.hd hc) ho (by simpa using strsAre_of r) hl fin
  · obtain ⟨its, r, ⟨⟨oc, od, dt, sl⟩, ho, e1, n, e2⟩, hz⟩ := J.tuple hq
    dsimp only at e1 e2
    subst e1 e2
    exact tx_call feed_tup (J.ok.hd hc) ho (by simpa using strsAre_of r) hl fin
end FsR

set_option Elab.async false
set_option linter.all false
set_option maxRecDepth 100000
set_option maxHeartbeats 2000000
namespace Fs
open PySem L2 Evl FsE FsC FsR FsT
def namesS (ns : List Str) : Bool := (ns.map nameS).all id && decide ns.Nodup
/-- names, in a list or a tuple -/
def NmsAt (H : Hp) (u : Addr) (ns : List Str) : Prop := H u = some (.lst (ns.map V.str)) ∨ H u = some (.tup (ns.map V.str))
theorem NmsAt.ex {H H' : Hp} {u : Addr} {ns : List Str} (e : Ex H H') (h : NmsAt H u ns) : NmsAt H' u ns := h.imp (e _ _) (e _ _)
theorem NmsAt.sq {K : PySem.W.Frag} {H : Hp} {u : Addr} {ns : List Str} (h : NmsAt H u ns) : SqL K H u (ns.map V.str) ∨ SqT K H u (ns.map V.str) := h.imp sq_of st_of
def spNames : Sp := fun vs H Q _ => ∃ (u : Addr) (ns : List Str), vs = [.ref u] ∧ NmsAt H u ns ∧ ns.length ≤ 90 ∧ (∀ z ∈ ns, z.length ≤ 40000) ∧ RetV (.bl (namesS ns)) H Q
section
variable {P : Program} {w : World} {K : PySem.W.Frag} {mg : Str → Option Value} {base : Heap} {C CB : Addr}
/-- len(set(xs)) == n, n the length of xs -/
theorem ev_differ {σ : L2.St} {H : Hp} {ta tb : TE} {u : Addr} {ns : List Str} (h : Ev ta σ H (.ref u)) (hu : NmsAt H u ns) (hl : ns.length ≤ 90) (hb : Ev tb σ H (.int ((ns.length : Nat) : Int))) : Ev (tOp rEq (tLenTx K ta) tb) σ H (.bl (decide ns.Nodup)) := fun H1 e Q q =>
  h H1 e _ fun H2 e2 => ⟨u, ns, rfl, (hu.ex (e.trans e2)).sq, by omega, fun c fw => hb H2 (e.trans e2) _ fun H3 e3 => rv_eq (x := .int (c : Nat)) (y := .int ((ns.length : Nat) : Int)) rfl H3 (Ex.refl H3) _ fun H4 e4 => by
    have a := fw.all
    rw [List.take_length] at a
    have b : decide (V.int ((c : Nat) : Int) = V.int ((ns.length : Nat) : Int)) = decide ns.Nodup := by
      by_cases hn : ns.Nodup
      · rw [decide_eq_true hn, a.mpr hn]
        exact decide_eq_true rfl
      · rw [decide_eq_false hn]
        refine decide_eq_false fun z => hn (a.mp ?_)
        injection z with z
        omega
    rw [b]
    exact q H4 ((e2.trans e3).trans e4)⟩
theorem nms_at {ns : List Str} {i : Nat} {x y : V} (hz : ∀ z ∈ ns, z.length ≤ 40000) (hx : (ns.map V.str)[i]? = some x) (hy : ((ns.map nameS).map V.bl)[i]? = some y) : OpV x ∧ y = .bl (nameV x) := by
  rw [List.map_map, List.getElem?_map] at hy
  rw [List.getElem?_map] at hx
  cases hq : ns[i]? with
  | none =>
    rw [hq] at hx
    cases hx
  | some z =>
    rw [hq] at hx hy
    have ex : V.str z = x := Option.some.inj hx
    have ey : V.bl (nameS z) = y := Option.some.inj hy
    subst ex
    exact ⟨hz z (List.mem_of_getElem? hq), ey.symm⟩
theorem scNames : FnScope ["texts", "text"] ["texts"] (defScope (topS 9)) := ⟨rfl, rfl, rfl, by decide +kernel, rfl, by decide +kernel, by decide +kernel⟩
theorem ok_are_names {f : Addr} {fd : FuncData} (F : Fun K "are_names" "are_names" (topS 9) f fd) (B : BasT K mg) (hset : mg "set" = none) (GN : CalX P w K mg base CX0 1 "is_name" (spPred nameV)) : FnOk P w K mg base CX0 2 f fd ["texts"] spNames := by
  refine F.ok scNames (fun vs H Q E h => ?_) (fun cdv A outer s H vs Q E hr h => ?_)
  · obtain ⟨u, ns, rfl, _⟩ := h
    rfl
  · obtain ⟨u, ns, rfl, hu, hl, hz, q⟩ := h
    have hlen : (ns.map V.str).length ≤ 40000 := by rw [List.length_map]; omega
    have hlen2 : ((ns.map nameS).map V.bl).length = (ns.map V.str).length := by simp
    have hbs : (((ns.map V.str).length : Nat) : Int) = ((ns.length : Nat) : Int) := by rw [List.length_map]
    have each : ∀ {σ : L2.St} {H2 : Hp} {i : Nat} {x y : V}, (ns.map V.str)[i]? = some x → ((ns.map nameS).map V.bl)[i]? = some y → σ[1]? = some (some x) → Ev (tCallS (spPred nameV) (fun _ => E0) (tCons (tVar 1) tNil)) σ H2 y := fun hx hy hv => by
      obtain ⟨a1, a2⟩ := nms_at hz hx hy
      rw [a2]
      exact ev_cx (ea_cons (ev_var hv) ea_nil) (sp_pred a1)
    rcases id hu with hu1 | hu1
    · refine ⟨_, pss_one (ps_ret (pe_and (pe_callB (cr_all rfl) (by rfl) B.all (by decide +kernel) (pa_cons
          (pe_lc (own := [("text", 1)]) (g := gName 1) (tt := tYes) (te := tCallS (spPred nameV) (fun _ => E0) (tCons (tVar 1) tNil)) rfl scNames.nd (pi_list (pv 0)) (blkOk_by (own := [("text", 1)]) (N := ["texts", "text"]) (sc := defScope (topS 9)) (by decide +kernel))
            (fun _ _ _ _ _ => pg_name (i := 1) scNames.nd rfl (Or.inl rfl)) (fun _ _ _ _ _ => pts_nil) (fun _ _ _ _ _ => pe_cx (E := fun _ => E0) GN hr (by decide) (by rfl) at0 (pa_cons (pv 1) pa_nil))) pa_nil))
          (pe_one (pe_cmpR op_eq (pe_lenTx rfl (by rfl) B.len (by rfl) hset (pv 0)) (pe_callB call_len_seq (by rfl) B.len PySem.boot_len (pa_cons (pv 0) pa_nil)) (nomark _))))), ?_⟩
      refine s_ret (v := .bl (namesS ns)) (ev_andV (ev_all (bs := ns.map nameS) (el_lcLy (ev_var rfl) (sq_of hu1) hlen (fun _ => rfl) hlen2 (fun i x y H2 e2 hx hy => each hx hy rfl)))
        (fun _ => ev_differ (ev_var rfl) hu hl (ev_is (ev_cb (ea_cons (ev_var rfl) ea_nil) (fun H2 e2 Q' q' => ⟨u, _, rfl, .inl (sq_of (e2 _ _ hu1)), q' H2 (Ex.refl H2)⟩)) (by rw [hbs])))) q
    · refine ⟨_, pss_one (ps_ret (pe_and (pe_callB (cr_all rfl) (by rfl) B.all (by decide +kernel) (pa_cons
          (pe_lc (own := [("text", 1)]) (g := gName 1) (tt := tYes) (te := tCallS (spPred nameV) (fun _ => E0) (tCons (tVar 1) tNil)) rfl scNames.nd (pi_tup (pv 0)) (blkOk_by (own := [("text", 1)]) (N := ["texts", "text"]) (sc := defScope (topS 9)) (by decide +kernel))
            (fun _ _ _ _ _ => pg_name (i := 1) scNames.nd rfl (Or.inl rfl)) (fun _ _ _ _ _ => pts_nil) (fun _ _ _ _ _ => pe_cx (E := fun _ => E0) GN hr (by decide) (by rfl) at0 (pa_cons (pv 1) pa_nil))) pa_nil))
          (pe_one (pe_cmpR op_eq (pe_lenTx rfl (by rfl) B.len (by rfl) hset (pv 0)) (pe_callB call_len_seq (by rfl) B.len PySem.boot_len (pa_cons (pv 0) pa_nil)) (nomark _))))), ?_⟩
      refine s_ret (v := .bl (namesS ns)) (ev_andV (ev_all (bs := ns.map nameS) (el_lcTy (ev_var rfl) (st_of hu1) hlen (fun _ => rfl) hlen2 (fun i x y H2 e2 hx hy => each hx hy rfl)))
        (fun _ => ev_differ (ev_var rfl) hu hl (ev_is (ev_cb (ea_cons (ev_var rfl) ea_nil) (fun H2 e2 Q' q' => ⟨u, _, rfl, .inr (st_of (e2 _ _ hu1)), q' H2 (Ex.refl H2)⟩)) (by rw [hbs])))) q
end
end Fs

set_option Elab.async false
set_option linter.all false
set_option maxRecDepth 100000
set_option maxHeartbeats 4000000
/-! An own error over ValueError, by a class between: its __init__ calls super().__init__ with a fixed text, then stores its one argument as the field field. -/
namespace FsB
open PySem PySem.W PySem.Calls PyProof.Rows PySem.HandSPX
abbrev eS : Scope := { kind := .function, names := [(PySem.Str.ofString "self", .local), (PySem.Str.ofString "field", .local), (PySem.Str.ofString "__class__", .free), (PySem.Str.ofString "super", .globalImplicit)], isGenerator := false, isCoroutine := false, more := [] }
abbrev eA (p1 p2 : Pos) : Arguments := { posonlyargs := [], args := [{ arg := "self", annotation := none, pos := p1 }, { arg := "field", annotation := none, pos := p2 }], vararg := none, kwonlyargs := [], kw_defaults := [], kwarg := none, defaults := [] }
abbrev eB (msg : Expr) (p0 p1 p2 p3 p4 p5 p6 p7 p8 : Pos) : List Stmt := [.Expr (.Call (.Attribute (.Call (.Name "super" p0) [] [] p1) "__init__" p2) [msg] [] p3) p4, .Assign [.Attribute (.Name "self" p5) "field" p6] (.Name "field" p7) p8]
/-- the message -/
abbrev eM (z : Str) (q0 : Pos) : Expr := .Constant (.str z) 0 q0
abbrev mroVE : List Value := [.type "ValueError", .type "Exception", .type "BaseException", .type "object"]
/-- what the written part says of the class at C, and of its __init__, at fI -/
structure ErrTxt (prog : Program) (K : Frag) (mg : Str → Option Value) (x : Str) (C fI : Addr) : Prop where
  gC : mg x = some (.ref C)
  cls : ∃ nm q N bs bm sn sub ab col dd k0 k1 k2 k3 k5, K.lookup C = some (excClassObj nm q C N bs bm true sn sub ab col dd k0 k1 k2 k3 k5 "ValueError.__new__") ∧ refsVE bm = true
  ei : excInitIn K C mroVE "ValueError.__new__" = true
  sa : findIn K (.ref C) "__setattr__" = some (some (.builtin "object.__setattr__"))
  noN : findIn K (.ref C) "field" = some none
  iC : findIn K (.ref C) "__init__" = some (some (.ref fI))
  tC : typeIn K (.ref fI) = some (.type "function")
  kC : keepIn K (.ref C) = true
  exC : subIn K (.ref C) (.type "BaseException") = some true
  veC : subIn K (.ref C) (.type "ValueError") = some true
  tyC : typeIn K (.ref C) = some (.type "type")
  slf : mroIn K C (.ref C) = some true
  sup : ks_superIn K C C "__init__" = some (some (.builtin "ValueError.__init__"))
  opq : nsIn K cStatics "thirdparty.any" = some none
  gs : mg "super" = none
  top : (prog.main.scope.names.lookup ("super" : Str)).isSome = false
  fn : ∃ (oc : Value) (od an : Option Addr) (kV doc pm ct : Value) (osl : Array (Option Value)) (qual : Str) (cda cc : Addr) (ccl cl : Value) (cdd cld : Option Addr) (ccs csl : Array (Option Value)) (vs : Array Value) (file : Str) (tf : Tok) (zM : Str) (p1 p2 q0 r0 r1 r2 r3 r4 r5 r6 r7 r8 : Pos),
    K.lookup fI = some ⟨oc, od, .func (ksFn "__init__" qual (eA p1 p2) (eB (eM zM q0) r0 r1 r2 r3 r4 r5 r6 r7 r8) eS .none kV doc pm an (.ref cda) ct cc), osl⟩ ∧ codeIn K (.ref cda) qual = true ∧
    K.lookup cda = some ⟨ccl, cdd, .fields vs, ccs⟩ ∧ vs[2]? = some (.str file tf) ∧ ((prog.main.file : Str) == file) = true ∧ K.lookup cc = some ⟨cl, cld, .cell (some (.ref C)), csl⟩ ∧ zM.length ≤ 1000 ∧ (r2.endLine == r3.line) = true
theorem call_line {o : Expr} {name : Str} {apos pos : Pos} {a : Expr} {env : Env} (hp : (apos.endLine == pos.line) = true) (hs : starEach [a] env = (false, eval a env) :: starEach [] env) : eval (.Call (.Attribute o name apos) [a] [] pos) env = (do
      let ov ← attributeBase o name env (eval o env)
      standAt apos.atName
      let (f, first) ← holding [ov] (getMethod ov name (do return (← importBound o env).getD true))
      callWith pos f first (backTo pos (starEach [a] env)) []) := by
  show (do
      let ov ← attributeBase o name env (eval o env)
      standAt apos.atName
      methodCall o name apos pos env ov 1 (backTo pos (starEach [a] env)) []) = _
  have e : methodCallForm 1 (backTo pos (starEach [a] env)) [] = true := by
    rw [hs]
    rfl
  unfold methodCall
  rw [e]
  unfold methodCallPos calleeOf
  rw [hp]
  simp only [Bool.not_true, Bool.false_or, if_true, pure_bind]
/-- what __init__ leaves of a fresh exception at x, over the heap h -/
structure BtEnd (h h' : Heap) (x C dx t1 : Addr) (v : Value) : Prop where
  keep : ∀ b o, h.get? b = some o → h'.get? b = some o
  obj : h'.get? x = some { cls := .ref C, dict := some dx, data := .fields #[.ref t1, .none, .none, .none, .bool false, .none] }
  dbig : h.objs.size ≤ dx
  dne : dx ≠ x
  ns : h'.Ns1 dx (fun y => if y = "field" then some v else none)
theorem str_len2 (a b : Str) : (a ++ b).length = a.length + b.length := by
  show (a.cps ++ b.cps).size = _
  rw [Array.size_append]
  rfl
theorem len1 (v : Value) : [v].length ≤ sizeLine := by
  rw [sizeLine_eq]
  exact (by decide : 1 ≤ 16777216)
section
variable {prog : Program} {w : World} {A : Around} {E : Value → Shared → Prop} {R : Result → Shared → Prop} {s : Shared} {K : Frag} {mg : Str → Option Value} {x0 : Str} {C fI : Addr}
theorem bt_init (T : ErrTxt prog K mg x0 C fI) {hp : Heap} {x t0 : Addr} {v : Value} (X : K.In hp) (G : hp.Ns mainGlobals mg) (Bl : ∃ mb, hp.Ns builtinsNs mb ∧ mb "super" = some (.type "super")) (hlim : s.heap.NoLimit)
    (k : ∀ b o, hp.get? b = some o → s.heap.get? b = some o) (hsz : hp.objs.size ≤ s.heap.objs.size) (hx : s.heap.get? x = some (excO C t0)) (hxn : hp.get? x = none) (hroom : A.depth < recursionLimit)
    (hq : ∀ h' tk' dx t1, BtEnd hp h' x C dx t1 v → R (.ok (.ret .none)) { s with heap := h', toks := tk' }) :
    codeAny (model prog w) A (.call (.ref fI) ⟨[.ref x, v], []⟩) R s := by
  obtain ⟨oc, od, an, kV, doc, pm, ct, osl, qual, cda, cc, ccl, cl, cdd, cld, ccs, csl, vs, file, tf, zM, p1, p2, q0, r0, r1, r2, r3, r4, r5, r6, r7, r8, ho, hcd, hcode, hvs, hfile, hcell, hM, hline⟩ := T.fn
  obtain ⟨nm, q, N, bs, bm, sn, sub, ab, col, dd, k0, k1, k2, k3, k5, hC, hbm⟩ := T.cls
  obtain ⟨mb, hb, hmb⟩ := Bl
  have hcl : clsIn K C = some { name := nm, bases := bs, mro := .ref C :: bm, ns := N, qualname := q, hasDict := true, slotNames := sn, subclasses := sub, abstract := ab, collection := col, hasDel := false } := by unfold clsIn; rw [hC] <;> rfl
  have Xs : K.In s.heap := X.keeps k
  have noc : ∀ y ∈ eS.names, y.2 ≠ .cell := by decide +kernel
  have locs : ∀ y ∈ [(("self" : Str), Value.ref x), ("field", v)], eS.names.lookup y.1 = some .local := fun y hy => by
    rcases List.mem_cons.mp hy with rfl | hy
    · rfl
    · rw [List.mem_singleton.mp hy]
      rfl
  refine ks_codeAny_call_defAt (body := eB (eM zM q0) r0 r1 r2 r3 r4 r5 r6 r7 r8) (binds := [("self", .ref x), ("field", v)]) hroom (Xs _ _ ho) rfl hlim (codeRec_of Xs hcd) rfl (BindsTo.of_eq (by first | rfl | with_unfolding_all rfl)) noc locs (fun h₁ hns hk₁ => ?_) rfl rfl rfl
  have Fr1 : Fr hp s.heap.objs.size h₁ (fun y => [(("self" : Str), Value.ref x), ("field", v)].reverse.lookup y) := ⟨hns, fun b o e => hk₁ b o (k b o e), hsz⟩
  have N1 : News hp s.heap.objs.size h₁ [(x, excObj C t0 none .none)] := fun p hp' => by
    rw [List.mem_singleton.mp hp']
    exact ⟨hk₁ _ _ hx, Nat.ne_of_lt (Heap.lt_size hx), hxn⟩
  show _root_.PySem.wpAt (model prog w) _ (.func _ (ksEnv qual eS s.heap.objs.size fI (.ref cda) cc)) (execs (eB (eM zM q0) r0 r1 r2 r3 r4 r5 r6 r7 r8) (ksEnv qual eS s.heap.objs.size fI (.ref cda) cc)) _ _ _
  refine ks_wpAt_execs_cons (ks_wpAt_Expr_any (ks_wpAt_MethodCall ?_ (call_line hline rfl)))
  generalize hE : (fun e s' => wpAny (model prog w) _ (leaving _ e) (fun x s'' => R (Except.error e) s'') (fun e' s'' => R (Except.error e') s'') s') = EE
  have X1 : K.In h₁ := X.keeps Fr1.keep
  -- super()
  refine ks_wpAt_super_base (env := ksEnv qual eS s.heap.objs.size fI (.ref cda) cc) rfl rfl rfl rfl (X1 _ _ ho) rfl rfl rfl (X1 _ _ hcode) rfl hvs hfile T.top ?_
  refine ks_loadName_global rfl rfl (loadGlobal_builtin (env := ksEnv qual eS s.heap.objs.size fI (.ref cda) cc) (G.keeps Fr1.keep) T.gs (hb.keeps Fr1.keep) hmb ⟨rfl, ?_⟩)
  refine wpAny_loadName_free rfl rfl rfl ⟨_, X1 _ _ hcell, rfl⟩ ?_
  refine wpAny_loadName_local (v := .ref x) rfl rfl hns rfl ?_
  refine ks_wpAny_isType_cls (X1 _ _ hC) rfl ⟨rfl, ?_⟩
  refine ks_wpAny_call_super (X1 _ _ hC) rfl (hk₁ _ _ hx) rfl (fun c z => by cases z) (looks_mroIn X1 T.slf) (fun h2 hso k2 => ?_)
  obtain ⟨F2, N2, l2⟩ := ks_newsPush (s := ⟨h₁, s.gens, s.drawn, s.toks + 2, s.os⟩) Fr1 N1 rfl hso k2
  -- its __init__, bound
  refine kxs_method kxs_ValueError F2 X N2 (List.mem_cons_self ..) (InstAt.of_exc0 (c2 := .none) (t := t0) N2 (List.mem_cons_of_mem _ (List.mem_cons_self ..))) T.opq T.sup T.veC rfl (fun u h3 F3 N3 l3 => ?_)
  refine kxs_callWith1 N3 (List.mem_cons_self ..) ?_ rfl rfl
  refine Calls.spliced_cons ?_
  show wpAny _ _ (eval (eM zM q0) (ksEnv qual eS s.heap.objs.size fI (.ref cda) cc)) _ _ _
  refine Calls.Constant_str ?_
  refine Calls.spliced_nil ⟨kxs_at N3 (List.mem_cons_self ..), ?_⟩
  have nx1 : h₁.objs.size ≠ x := fun z => Nat.lt_irrefl _ (z ▸ l2 _ (List.mem_cons_self ..) : x < x)
  have nx2 : u ≠ x := fun z => Nat.lt_irrefl _ (z ▸ l3 _ (List.mem_cons_of_mem _ (List.mem_cons_self ..)) : x < x)
  refine kxs_call F3 X N3 PySem.F.excBase_ValueError T.ei (List.mem_cons_self ..) (.tail nx2 (.tail nx1 (.head fun p hp' => by cases hp'))) (len1 _) (fun t' h4 F4 N4 l4 => ?_)
  -- self.field = field
  have X4 : K.In h4 := X.keeps F4.keep
  have hx4 : h4.get? x = some (excO C t') := (N4 (x, excObj C t' none .none) (List.mem_cons_of_mem _ (List.mem_cons_of_mem _ (List.mem_cons_of_mem _ (List.mem_cons_self ..))))).1
  refine wpAt_of_wpAny (wpAny_execs_cons (plainObj_wpAny_Assign_Attribute ?_))
  refine wpAny_Name (wpAny_loadName_local (v := v) rfl rfl F4.ns rfl ?_) rfl
  refine wpAny_Name (wpAny_loadName_local (v := .ref x) rfl rfl F4.ns rfl ?_) rfl
  refine set_plain X4 (ox := excO C t') (od := none) ⟨hx4, rfl, rfl, trivial⟩ T.sa ?_
  refine exc_osa X4 hx4 hcl (show refsVE (.ref C :: bm) = true from hbm) rfl T.noN (fun h5 tk5 dx k5 dn dne hx5 hn5 => ?_)
  have zz : s.heap.objs.size < h4.objs.size := F4.ns.lt
  exact wpAny_execs_nil (hq h5 tk5 dx t' ⟨fun b o e => k5 b o (fun z => by rw [z, hxn] at e; cases e) (F4.keep b o e), hx5, Nat.le_trans hsz (Nat.le_trans (Nat.le_of_lt zz) dn), dne, hn5⟩)
end
end FsB

set_option Elab.async false
set_option linter.all false
set_option maxRecDepth 100000
set_option maxHeartbeats 4000000
namespace FsB
open PySem PySem.W PySem.Calls PyProof.Rows PySem.HandSPX
/-- a made one -/
structure BtMade (h h' : Heap) (e C d : Addr) (v : Value) : Prop where
  keep : ∀ b o, h.get? b = some o → h'.get? b = some o
  big : h.objs.size ≤ e
  obj : ∃ t1 : Addr, h'.get? e = some { cls := .ref C, dict := some d, data := .fields #[.ref t1, .none, .none, .none, .bool false, .none] }
  dbig : h.objs.size ≤ d
  dne : d ≠ e
  ns : h'.Ns1 d (fun y => if y = "field" then some v else none)
section
variable {prog : Program} {w : World} {A : Around} {R : Result → Shared → Prop} {s : Shared} {K : Frag} {mg : Str → Option Value} {x0 : Str} {C fI : Addr}
theorem bt_made (T : ErrTxt prog K mg x0 C fI) {v : Value} (X : K.In s.heap) (G : s.heap.Ns mainGlobals mg) (Bl : ∃ mb, s.heap.Ns builtinsNs mb ∧ mb "super" = some (.type "super")) (hlim : s.heap.NoLimit) (hroom : A.depth + 1 < recursionLimit)
    (hq : ∀ h' tk' e d, BtMade s.heap h' e C d v → R (.ok (.ret (.ref e))) { s with heap := h', toks := tk' }) : codeAny (model prog w) A (.call (.ref C) ⟨[v], []⟩) R s := by
  obtain ⟨nm, q, N, bs, bm, sn, sub, ab, col, dd, k0, k1, k2, k3, k5, hC, hbm⟩ := T.cls
  obtain ⟨g0, gs, dr, t, os⟩ := s
  let g2 : Heap := (g0.push (kdv_tup [v])).push (excO C g0.objs.size)
  have up : ∀ b o, g0.get? b = some o → g2.get? b = some o := fun b o e => Heap.get?_push_of_some _ (Heap.get?_push_of_some _ e)
  have at1 : g2.get? (g0.objs.size + 1) = some (excO C g0.objs.size) := by
    show ((g0.push (kdv_tup [v])).push (excO C g0.objs.size)).get? (g0.objs.size + 1) = _
    heap_get
  have sz2 : g2.objs.size = g0.objs.size + 1 + 1 := by
    show ((g0.push (kdv_tup [v])).push (excO C g0.objs.size)).objs.size = _
    rw [Heap.size_push, Heap.size_push]
  have free1 : g0.get? (g0.objs.size + 1) = none := by
    cases e : g0.get? (g0.objs.size + 1) with
    | none => rfl
    | some o => exact absurd (Nat.lt_of_succ_lt (Heap.lt_size e)) (Nat.lt_irrefl _)
  refine call_own F.excBase_ValueError (fun Y => refsVE_contains Y bm hbm) (X _ _ hC) (looks_findIn X T.iC) (fun self => bind_fn X self T.tC) (len1 _) ?_
  refine bt_init (s := ⟨g2, gs, dr, t, os⟩) (hp := g0) T X G Bl (hlim.keeps up) up (by show g0.objs.size ≤ g2.objs.size; omega) at1 free1 hroom fun h' t' dx t1 ⟨k, ho, dbig, dne, hns⟩ => ?_
  exact ⟨rfl, hq h' t' (g0.objs.size + 1) dx ⟨k, Nat.le_succ _, ⟨t1, ho⟩, dbig, dne, hns⟩⟩
end
end FsB
namespace Fs
open PySem PySem.Spec PyProof.Rows L2 FsB
theorem relO_field {f : Str} {v : V} {u : Value} (r : RelV v u) (g : Str) : RelO (List.lookup g [(f, v)]) (if g = f then some u else none) := by
  by_cases h : g = f
  · rw [h, if_pos rfl, show List.lookup f [(f, v)] = some v by simp [List.lookup]]
    exact r
  · rw [if_neg h, show List.lookup g [(f, v)] = none by simp [List.lookup, show (g == f) = false by simpa using h]]
    trivial
theorem raises_bt {P : Program} {w : World} {K : PySem.W.Frag} {mg : Str → Option Value} {base : Heap} {x : Str} {C fI : Addr} {k : Nat} (hdb : (x == ("__debug__" : Str)) = false) (T : ErrTxt P K mg x C fI) : RaisesX P w K mg base x C "field" k := by
  intro X eP ew eK em eb hr a ta p pos ha hg he hpl pins s σ H Q I h
  subst eP ew eK em eb
  refine wpAny_Call_Name_kw (ld_glob I hg T.gC ?_ hdb)
  refine PySem.W.callWith_K (h₀ := X.base) I.ok.mod.kin T.kC (thn (ha.run pos pins s σ H _ I h) fun us s1 ⟨vs, H1, I1, r1, z, ev, hz, q1⟩ => ?_) he hpl
  subst ev
  refine ⟨I1.kIn, ?_⟩
  cases r1 with
  | cons rv rn =>
    cases rn
    obtain ⟨tk, rfl⟩ := rv
    show wpAny _ _ (call (.ref C) [.str z tk]) _ _ _
    have lim := I1.nolimit
    obtain ⟨mb, b1, b2⟩ := I1.ok.mod.blt
    have gl : s1.heap.Ns mainGlobals X.mg := I1.ok.mod.glob.keeps I1.bk
    have bl : ∃ mb, s1.heap.Ns builtinsNs mb ∧ mb "super" = some (.type "super") := ⟨mb, b1.keeps I1.bk, (b2 _ (by decide)).trans Boot.«super»⟩
    obtain ⟨g0, gs, dr, t, os⟩ := s1
    refine wpAny_call (bt_made T I1.kIn gl bl lim (by have := hr.dp; omega) fun h' t' e d M => ?_)
    show MkP X pins σ Q (.ref e) ⟨h', gs, dr, t', os⟩
    obtain ⟨t1, ho⟩ := M.obj
    obtain ⟨G', ge1, ge2⟩ := restrict h' fun b => decide (b ≠ e)
    have same : ∀ b, b ≠ e → G'.get? b = h'.get? b := fun b hb => ge1 b (decide_eq_true hb)
    have gone : G'.get? e = none := ge2 e (by simp)
    have old : ∀ b o, g0.get? b = some o → G'.get? b = some o := fun b o q => (same b (Nat.ne_of_lt (Nat.lt_of_lt_of_le (Heap.lt_size q) M.big))).trans (M.keep b o q)
    have ob : ObjOk X.prog X.w (upd H1 d (.xd [(("field" : Str), V.str z)])) G' d (.xd [(("field" : Str), V.str z)]) := ⟨_, M.ns.at (fun o q => (same d M.dne).trans q), fun f => relO_field (v := V.str z) ⟨tk, rfl⟩ f⟩
    have J : Inv X pins σ (upd H1 d (.xd [(("field" : Str), V.str z)])) ⟨G', gs, dr, t', os⟩ := I1.laid (t' := t') old M.dbig ob
    refine ⟨e, _, _, ⟨G', gs, dr, t', os⟩, _, .ref C, some d, rfl, J, fun b o q => ?_, gone, ho, ⟨rfl, rfl⟩, rfl, rfl, ?_, rfl, I1.bare, raises_own T.exC T.tyC, q1 d (I1.hok.fresh M.dbig)⟩
    · by_cases hb : b = e
      · have q' : G'.get? b = some o := q
        rw [hb, gone] at q'
        cases q'
      · exact (same b hb).symm.trans q
    · rw [upd_ne (Ne.symm M.dne)]
      exact I1.hok.fresh M.big
end Fs

set_option Elab.async false
set_option linter.all false
set_option maxRecDepth 100000
set_option maxHeartbeats 4000000
/-! Own errors as values: asked by isinstance, their fields read. -/
namespace FsV
open PySem PySem.W PySem.Calls PyProof.Rows
section
variable {P : Program} {w : World} {A : Around} {E : Value → Shared → Prop} {s : Shared} {K : Frag} {x D : Addr} {ox : Obj} {od : Option Obj}
theorem obj_class {nm : Str} {v g : Value} (h1 : (clsIn K D).isSome = true) (h2 : findIn K (.ref D) nm = some (some v)) (h3 : specialIn K v "__get__" = some (some g)) (h4 : takesIn K v = some true) : findObj K D od nm = some (.bind g v) := by
  cases od with
  | none => exact findObj_dataN h1 h2 h3 h4
  | some o => exact findObj_data h1 h2 h3 h4
/-- x.__class__, whatever its dict -/
theorem err_class {Q : Option Value → Shared → Prop} (C : L2.ExcC K D) (X : K.In s.heap) (I : InstAt s.heap x ox D od) (q : Q (some (.ref D)) { s with toks := s.toks + 1 }) : wpAny (model P w) A (getAttr? (.ref x) "__class__") Q E s := by
  have hc : (clsIn K D).isSome = true := by
    obtain ⟨c, e, _⟩ := any_some C.hd
    rw [e]
    rfl
  have found := obj_class (od := od) hc C.ha C.hn C.ht
  obtain ⟨h0, gs, dr, tk, os⟩ := s
  have T0 := I.type (M := model P w)
  have G1 := looks_findIn (M := model P w) X C.hg
  have G2 := looks_findIn (M := model P w) X C.hk
  have G3 := looks_find (M := model P w) X I found
  have isE : Looks (model P w) h0 (isInstance (.ref x) (.type "BaseException")) true := T0.andThen (looks_subIn X C.hs)
  have b1 : (false && onTheHeap (Value.builtin "BaseException.__getattribute__")) = false := by decide
  have b2 : (onTheHeap (Value.ref D) && Value.builtin "BaseException.__getattribute__" == Value.builtin "object.__getattribute__") = false := by
    rw [show (Value.builtin "BaseException.__getattribute__" == Value.builtin "object.__getattribute__") = false by decide +kernel, Bool.and_false]
  unfold getAttr? getAttrBy? getAttrBy
  refine wpAny_bind (wpAny_mkText ?_)
  refine wpAny_bind (wpAny_attempt (wpAny_holding ?_))
  refine wpAny_bind (T0.at (wpAny_bind (G1.at ?_)))
  show wpAny (model P w) A (if (onTheHeap (Value.ref D) && Value.builtin "BaseException.__getattribute__" == Value.builtin "object.__getattribute__") = true then _ else _) _ _ _
  rw [b2, if_neg (by decide)]
  unfold getAttrByItsOwn hookBefore
  refine wpAny_bind ?_
  rw [if_pos (by rfl : onTheHeap (Value.ref D) = true)]
  refine G2.at (wpAny_bind (wpAny_attempt (wpAny_holding ?_)))
  unfold callGetattribute
  rw [b1, if_neg (by decide)]
  unfold boundAndCalled
  rw [F.excAttr_ValueError.ga.bind (.ref x)]
  refine wpAny_bind (wpAny_pure ?_)
  show wpAny (model P w) A (call (.builtin "BaseException.__getattribute__") [.ref x, .str "__class__" tk]) _ _ _
  refine wpAny_call (codeAny_call_builtin F.excAttr_ValueError.ga.plain F.entry_bexc_ga ?_)
  refine @check_slot (model P w) _ _ ⟨h0, gs, dr, tk + 1, os⟩ "BaseException.__getattribute__" "BaseException" "__getattribute__" (.ref x) [.str "__class__" tk] [] _ (by decide +kernel) (by decide +kernel) isE (F.args_bexc_ga (.ref x) (.str "__class__" tk)) ?_
  unfold Builtin.«object.__getattribute__»
  refine wpAny_bind (wpAny_of_eq (a := ((Value.ref x : Value), [Value.str "__class__" tk])) (by first | rfl | (simp only [slotArgs]; rfl)) ?_)
  refine wpAny_bind (wpAny_pure (wpAny_bind (T0.at (wpAny_bind (G3.at ?_)))))
  show wpAny _ _ (holding [Value.builtin "object.__class__"] (call (.builtin "getset_descriptor.__get__") [.builtin "object.__class__", .ref x, .ref D]) >>= ret) _ _ _
  refine wpAny_bind (wpAny_holding (wpAny_call (class_get (s := ⟨h0, gs, dr, tk + 1, os⟩) (ox := ox) (od := od) X I C.hm ?_)))
  refine wpAny_pure ?_
  show wpAny _ _ (handedOut (.ref D)) _ _ _
  rw [handedOut_of (by rfl : handedIn (.ref D) = true)]
  first
    | exact wpAny_pure (wpAny_pure q)
    | exact wpAny_pure q
    | exact wpAny_pure (wpAny_bind (wpAny_pure (wpAny_pure q)))
theorem kitx_err (C : L2.ExcC K D) : KitX K (.ref x) (.ref D) (fun h => ∃ ox od, InstAt h x ox D od) where
  ty := fun M h _ ⟨_, _, I⟩ => I.type
  it := fun M h Y _ => by
    obtain ⟨c, e, _⟩ := any_some C.hd
    unfold clsIn at e
    split at e
    · rename_i _ _ _ _ at_
      intro _ _ _ _ kp q
      unfold isType loadHead
      exact wpAny_bind (wpAny_loadPart (kp _ _ (Y _ _ at_)) (wpAny_pure q))
    · cases e
  ne := fun h tp dd its n sl Y htp => (handS_kitx_exc (x := x) (ox := default) C.hg C.hk C.hs C.hd C.ha C.hn C.ht C.hm).ne h tp dd its n sl Y htp
  ca := fun Y ⟨_, _, I⟩ q => err_class C Y I q
end
end FsV
namespace FsV
open PySem PySem.Spec PyProof.Rows L2
/-- at a stands an error of the class at C -/
def IsErr (H : Hp) (a C : Addr) : Prop := H a = some (ExO (.ref C) a) ∨ ∃ d fs, H a = some (exo a C (some d)) ∧ H d = some (exd d fs)
theorem isErr_inst {P : Program} {w : World} {H : Hp} {h : Heap} {a C : Addr} (ok : HOk P w H h) (e : IsErr H a C) : ∃ ox od, PySem.W.InstAt h a ox C od := by
  rcases e with e | ⟨d, fs, e, ed⟩
  · obtain ⟨⟨oe, vs, g, z, dt, _⟩, _⟩ := (ok a _ e : ObjOk P w H h a (ExO (.ref C) a))
    obtain ⟨oc, od, oda, osl⟩ := oe
    obtain ⟨z1, z2⟩ := z
    dsimp only at z1 z2 dt
    subst z1 z2 dt
    exact ⟨_, none, g, rfl, rfl, trivial⟩
  · obtain ⟨t1, g⟩ := exo_at ok e
    obtain ⟨mA, ⟨o, es, ep, ho, hr⟩, _⟩ := exd_at ok ed
    exact ⟨_, some o, g, rfl, rfl, ho⟩
/-- isinstance(e, c), e an error as a value -/
def rIsV (K : PySem.W.Frag) : List V → Hp → VK → Prop := fun xs H Q => ∃ (a C : Addr) (c : V) (cv : Value) (b : Bool), xs = [.ref a, c] ∧ IsErr H a C ∧ ExcC K C ∧ (∀ u, RelV c u → u = cv) ∧ PySem.W.kitOne K (.ref C) cv = some b ∧ Q (.bl b) H
section
variable {X : Cx} {pos : Pos}
theorem call_isV : CallR X (.builtin "isinstance") (rIsV X.K) := by
  intro pins s σ H xs us Q I r h
  obtain ⟨a, C, c, cv, b, rfl, ea, ec, hcv, hk, q⟩ := h
  cases r with
  | cons rx rr =>
    cases rr with
    | cons rt rr =>
      cases rr
      cases rx
      obtain rfl := hcv _ rt
      exact PySem.W.kia_one (kitx_err ec) I.kIn (isErr_inst I.hok ea) hk (fun z => nomatch z) fun tk => ⟨.bl b, H, I.kept (t' := tk) fun _ _ z => z, rfl, q⟩
/-- e.f, e an error as a value -/
def tErrF (K : PySem.W.Frag) (f : Str) (te : TE) : TE := fun σ H Q => te σ H fun x H1 => ∃ (a C d : Addr) (fs : List (Str × V)) (v : V), x = .ref a ∧ H1 a = some (exo a C (some d)) ∧ H1 d = some (exd d fs) ∧ XfC K C ∧ PySem.W.findIn K (.ref C) f = some none ∧ fs.lookup f = some v ∧ Q v H1
theorem pe_errF {e : Expr} {te : TE} {n : Str} (he : PE X e te) (hb : attributeBase e n X.env (eval e X.env) = eval e X.env := by rfl) : PE X (.Attribute e n pos) (tErrF X.K n te) := by
  refine ⟨fun pins s σ H Q I h => ?_⟩
  refine attr_of hb (thn (he.run pins s σ H _ I h) fun u s1 hh => ?_)
  obtain ⟨x, H1, I1, rx, a, C, d, fs, v, rfl, ea, ed, T, hno, l, q⟩ := hh
  obtain rfl : u = Value.ref a := rx
  obtain ⟨t1, g⟩ := exo_at I1.hok ea
  obtain ⟨mA, hns, rel⟩ := exd_at I1.hok ed
  obtain ⟨od, ho, hl⟩ := lookIn_ns hns
  obtain ⟨u, hu, ru⟩ := RelO.some_of (v := v) (o := mA n) (by rw [← l]; exact rel n)
  have J : PySem.W.InstAt s1.heap a _ C (some od) := ⟨g, rfl, rfl, ho⟩
  exact HandSPX.exc_get I1.kIn J T.ga T.gg T.exC (PySem.W.findObj_own T.hdC hno rfl (by rw [hl, hu])) (handed_of ru) ⟨v, H1, I1.tok _, ru, q⟩
/-- X(), an own error without an own __init__ -/
theorem pe_err0 {C : Addr} {bmB : List Value} {B newId initId : String} {x : Str} {p : Pos} (F : ExcBaseFacts B newId initId bmB) (q : PySem.W.excIn X.K C bmB newId = true) (gC : X.mg x = some (.ref C)) (kC : PySem.W.keepIn X.K (.ref C) = true) (hg : Gl X x)
    (hdb : (x == ("__debug__" : Str)) = false := by decide) : PE X (.Call (.Name x p) [] [] pos) (fun σ H Q => ∀ a, H a = none → Q (.ref a) (upd H a (ExO (.ref C) a))) := by
  refine ⟨fun pins s σ H Q I h => ?_⟩
  refine wpAny_Call_Name_kw (ld_glob I hg gC ?_ hdb)
  refine PySem.W.callWith_K0 I.kIn kC ?_
  show wpAny (model X.prog X.w) X.A (call (.ref C) []) _ _ _
  obtain ⟨bm, N, nm, qn, bs, hdct, sn, sub, ab, col, dd, k0, k1, k2, k3, k5, mN, hC, hN, hni, T⟩ := exc_obj I.kIn q
  refine wpAny_call_exc_subT F T hC hN hni (fun h' a made => ?_) (by show 0 ≤ sizeLine; exact Nat.zero_le _)
  have fresh : H a = none := I.hok.gone made.new
  obtain ⟨t, at_, _, _⟩ := made.there
  exact ⟨.ref a, upd H a (ExO (.ref C) a), I.laidN made.keeps made.new fresh (exO_ok at_ ⟨rfl, rfl⟩ rfl rfl rfl (by show 4 < 6; decide)), rfl, h a fresh⟩
end
end FsV

set_option Elab.async false
set_option linter.all false
set_option maxRecDepth 100000
set_option maxHeartbeats 4000000
/-! An own error over ValueError, by a class between: its __init__ calls super().__init__ with a fixed text, then stores its one argument as the field name. -/
namespace FsBname
open PySem PySem.W PySem.Calls PyProof.Rows PySem.HandSPX
abbrev eS : Scope := { kind := .function, names := [(PySem.Str.ofString "self", .local), (PySem.Str.ofString "name", .local), (PySem.Str.ofString "__class__", .free), (PySem.Str.ofString "super", .globalImplicit)], isGenerator := false, isCoroutine := false, more := [] }
abbrev eA (p1 p2 : Pos) : Arguments := { posonlyargs := [], args := [{ arg := "self", annotation := none, pos := p1 }, { arg := "name", annotation := none, pos := p2 }], vararg := none, kwonlyargs := [], kw_defaults := [], kwarg := none, defaults := [] }
abbrev eB (msg : Expr) (p0 p1 p2 p3 p4 p5 p6 p7 p8 : Pos) : List Stmt := [.Expr (.Call (.Attribute (.Call (.Name "super" p0) [] [] p1) "__init__" p2) [msg] [] p3) p4, .Assign [.Attribute (.Name "self" p5) "name" p6] (.Name "name" p7) p8]
/-- the message -/
abbrev eM (z : Str) (q0 : Pos) : Expr := .Constant (.str z) 0 q0
abbrev mroVE : List Value := [.type "ValueError", .type "Exception", .type "BaseException", .type "object"]
/-- what the written part says of the class at C, and of its __init__, at fI -/
structure ErrTxt (prog : Program) (K : Frag) (mg : Str → Option Value) (x : Str) (C fI : Addr) : Prop where
  gC : mg x = some (.ref C)
  cls : ∃ nm q N bs bm sn sub ab col dd k0 k1 k2 k3 k5, K.lookup C = some (excClassObj nm q C N bs bm true sn sub ab col dd k0 k1 k2 k3 k5 "ValueError.__new__") ∧ refsVE bm = true
  ei : excInitIn K C mroVE "ValueError.__new__" = true
  sa : findIn K (.ref C) "__setattr__" = some (some (.builtin "object.__setattr__"))
  noN : findIn K (.ref C) "name" = some none
  iC : findIn K (.ref C) "__init__" = some (some (.ref fI))
  tC : typeIn K (.ref fI) = some (.type "function")
  kC : keepIn K (.ref C) = true
  exC : subIn K (.ref C) (.type "BaseException") = some true
  veC : subIn K (.ref C) (.type "ValueError") = some true
  tyC : typeIn K (.ref C) = some (.type "type")
  slf : mroIn K C (.ref C) = some true
  sup : ks_superIn K C C "__init__" = some (some (.builtin "ValueError.__init__"))
  opq : nsIn K cStatics "thirdparty.any" = some none
  gs : mg "super" = none
  top : (prog.main.scope.names.lookup ("super" : Str)).isSome = false
  fn : ∃ (oc : Value) (od an : Option Addr) (kV doc pm ct : Value) (osl : Array (Option Value)) (qual : Str) (cda cc : Addr) (ccl cl : Value) (cdd cld : Option Addr) (ccs csl : Array (Option Value)) (vs : Array Value) (file : Str) (tf : Tok) (zM : Str) (p1 p2 q0 r0 r1 r2 r3 r4 r5 r6 r7 r8 : Pos),
    K.lookup fI = some ⟨oc, od, .func (ksFn "__init__" qual (eA p1 p2) (eB (eM zM q0) r0 r1 r2 r3 r4 r5 r6 r7 r8) eS .none kV doc pm an (.ref cda) ct cc), osl⟩ ∧ codeIn K (.ref cda) qual = true ∧
    K.lookup cda = some ⟨ccl, cdd, .fields vs, ccs⟩ ∧ vs[2]? = some (.str file tf) ∧ ((prog.main.file : Str) == file) = true ∧ K.lookup cc = some ⟨cl, cld, .cell (some (.ref C)), csl⟩ ∧ zM.length ≤ 1000 ∧ (r2.endLine == r3.line) = true
theorem call_line {o : Expr} {name : Str} {apos pos : Pos} {a : Expr} {env : Env} (hp : (apos.endLine == pos.line) = true) (hs : starEach [a] env = (false, eval a env) :: starEach [] env) : eval (.Call (.Attribute o name apos) [a] [] pos) env = (do
      let ov ← attributeBase o name env (eval o env)
      standAt apos.atName
      let (f, first) ← holding [ov] (getMethod ov name (do return (← importBound o env).getD true))
      callWith pos f first (backTo pos (starEach [a] env)) []) := by
  show (do
      let ov ← attributeBase o name env (eval o env)
      standAt apos.atName
      methodCall o name apos pos env ov 1 (backTo pos (starEach [a] env)) []) = _
  have e : methodCallForm 1 (backTo pos (starEach [a] env)) [] = true := by
    rw [hs]
    rfl
  unfold methodCall
  rw [e]
  unfold methodCallPos calleeOf
  rw [hp]
  simp only [Bool.not_true, Bool.false_or, if_true, pure_bind]
/-- what __init__ leaves of a fresh exception at x, over the heap h -/
structure BtEnd (h h' : Heap) (x C dx t1 : Addr) (v : Value) : Prop where
  keep : ∀ b o, h.get? b = some o → h'.get? b = some o
  obj : h'.get? x = some { cls := .ref C, dict := some dx, data := .fields #[.ref t1, .none, .none, .none, .bool false, .none] }
  dbig : h.objs.size ≤ dx
  dne : dx ≠ x
  ns : h'.Ns1 dx (fun y => if y = "name" then some v else none)
theorem str_len2 (a b : Str) : (a ++ b).length = a.length + b.length := by
  show (a.cps ++ b.cps).size = _
  rw [Array.size_append]
  rfl
theorem len1 (v : Value) : [v].length ≤ sizeLine := by
  rw [sizeLine_eq]
  exact (by decide : 1 ≤ 16777216)
section
variable {prog : Program} {w : World} {A : Around} {E : Value → Shared → Prop} {R : Result → Shared → Prop} {s : Shared} {K : Frag} {mg : Str → Option Value} {x0 : Str} {C fI : Addr}
theorem bt_init (T : ErrTxt prog K mg x0 C fI) {hp : Heap} {x t0 : Addr} {v : Value} (X : K.In hp) (G : hp.Ns mainGlobals mg) (Bl : ∃ mb, hp.Ns builtinsNs mb ∧ mb "super" = some (.type "super")) (hlim : s.heap.NoLimit)
    (k : ∀ b o, hp.get? b = some o → s.heap.get? b = some o) (hsz : hp.objs.size ≤ s.heap.objs.size) (hx : s.heap.get? x = some (excO C t0)) (hxn : hp.get? x = none) (hroom : A.depth < recursionLimit)
    (hq : ∀ h' tk' dx t1, BtEnd hp h' x C dx t1 v → R (.ok (.ret .none)) { s with heap := h', toks := tk' }) :
    codeAny (model prog w) A (.call (.ref fI) ⟨[.ref x, v], []⟩) R s := by
  obtain ⟨oc, od, an, kV, doc, pm, ct, osl, qual, cda, cc, ccl, cl, cdd, cld, ccs, csl, vs, file, tf, zM, p1, p2, q0, r0, r1, r2, r3, r4, r5, r6, r7, r8, ho, hcd, hcode, hvs, hfile, hcell, hM, hline⟩ := T.fn
  obtain ⟨nm, q, N, bs, bm, sn, sub, ab, col, dd, k0, k1, k2, k3, k5, hC, hbm⟩ := T.cls
  obtain ⟨mb, hb, hmb⟩ := Bl
  have hcl : clsIn K C = some { name := nm, bases := bs, mro := .ref C :: bm, ns := N, qualname := q, hasDict := true, slotNames := sn, subclasses := sub, abstract := ab, collection := col, hasDel := false } := by unfold clsIn; rw [hC] <;> rfl
  have Xs : K.In s.heap := X.keeps k
  have noc : ∀ y ∈ eS.names, y.2 ≠ .cell := by decide +kernel
  have locs : ∀ y ∈ [(("self" : Str), Value.ref x), ("name", v)], eS.names.lookup y.1 = some .local := fun y hy => by
    rcases List.mem_cons.mp hy with rfl | hy
    · rfl
    · rw [List.mem_singleton.mp hy]
      rfl
  refine ks_codeAny_call_defAt (body := eB (eM zM q0) r0 r1 r2 r3 r4 r5 r6 r7 r8) (binds := [("self", .ref x), ("name", v)]) hroom (Xs _ _ ho) rfl hlim (codeRec_of Xs hcd) rfl (BindsTo.of_eq (by first | rfl | with_unfolding_all rfl)) noc locs (fun h₁ hns hk₁ => ?_) rfl rfl rfl
  have Fr1 : Fr hp s.heap.objs.size h₁ (fun y => [(("self" : Str), Value.ref x), ("name", v)].reverse.lookup y) := ⟨hns, fun b o e => hk₁ b o (k b o e), hsz⟩
  have N1 : News hp s.heap.objs.size h₁ [(x, excObj C t0 none .none)] := fun p hp' => by
    rw [List.mem_singleton.mp hp']
    exact ⟨hk₁ _ _ hx, Nat.ne_of_lt (Heap.lt_size hx), hxn⟩
  show _root_.PySem.wpAt (model prog w) _ (.func _ (ksEnv qual eS s.heap.objs.size fI (.ref cda) cc)) (execs (eB (eM zM q0) r0 r1 r2 r3 r4 r5 r6 r7 r8) (ksEnv qual eS s.heap.objs.size fI (.ref cda) cc)) _ _ _
  refine ks_wpAt_execs_cons (ks_wpAt_Expr_any (ks_wpAt_MethodCall ?_ (call_line hline rfl)))
  generalize hE : (fun e s' => wpAny (model prog w) _ (leaving _ e) (fun x s'' => R (Except.error e) s'') (fun e' s'' => R (Except.error e') s'') s') = EE
  have X1 : K.In h₁ := X.keeps Fr1.keep
  -- super()
  refine ks_wpAt_super_base (env := ksEnv qual eS s.heap.objs.size fI (.ref cda) cc) rfl rfl rfl rfl (X1 _ _ ho) rfl rfl rfl (X1 _ _ hcode) rfl hvs hfile T.top ?_
  refine ks_loadName_global rfl rfl (loadGlobal_builtin (env := ksEnv qual eS s.heap.objs.size fI (.ref cda) cc) (G.keeps Fr1.keep) T.gs (hb.keeps Fr1.keep) hmb ⟨rfl, ?_⟩)
  refine wpAny_loadName_free rfl rfl rfl ⟨_, X1 _ _ hcell, rfl⟩ ?_
  refine wpAny_loadName_local (v := .ref x) rfl rfl hns rfl ?_
  refine ks_wpAny_isType_cls (X1 _ _ hC) rfl ⟨rfl, ?_⟩
  refine ks_wpAny_call_super (X1 _ _ hC) rfl (hk₁ _ _ hx) rfl (fun c z => by cases z) (looks_mroIn X1 T.slf) (fun h2 hso k2 => ?_)
  obtain ⟨F2, N2, l2⟩ := ks_newsPush (s := ⟨h₁, s.gens, s.drawn, s.toks + 2, s.os⟩) Fr1 N1 rfl hso k2
  -- its __init__, bound
  refine kxs_method kxs_ValueError F2 X N2 (List.mem_cons_self ..) (InstAt.of_exc0 (c2 := .none) (t := t0) N2 (List.mem_cons_of_mem _ (List.mem_cons_self ..))) T.opq T.sup T.veC rfl (fun u h3 F3 N3 l3 => ?_)
  refine kxs_callWith1 N3 (List.mem_cons_self ..) ?_ rfl rfl
  refine Calls.spliced_cons ?_
  show wpAny _ _ (eval (eM zM q0) (ksEnv qual eS s.heap.objs.size fI (.ref cda) cc)) _ _ _
  refine Calls.Constant_str ?_
  refine Calls.spliced_nil ⟨kxs_at N3 (List.mem_cons_self ..), ?_⟩
  have nx1 : h₁.objs.size ≠ x := fun z => Nat.lt_irrefl _ (z ▸ l2 _ (List.mem_cons_self ..) : x < x)
  have nx2 : u ≠ x := fun z => Nat.lt_irrefl _ (z ▸ l3 _ (List.mem_cons_of_mem _ (List.mem_cons_self ..)) : x < x)
  refine kxs_call F3 X N3 PySem.F.excBase_ValueError T.ei (List.mem_cons_self ..) (.tail nx2 (.tail nx1 (.head fun p hp' => by cases hp'))) (len1 _) (fun t' h4 F4 N4 l4 => ?_)
  -- self.field = field
  have X4 : K.In h4 := X.keeps F4.keep
  have hx4 : h4.get? x = some (excO C t') := (N4 (x, excObj C t' none .none) (List.mem_cons_of_mem _ (List.mem_cons_of_mem _ (List.mem_cons_of_mem _ (List.mem_cons_self ..))))).1
  refine wpAt_of_wpAny (wpAny_execs_cons (plainObj_wpAny_Assign_Attribute ?_))
  refine wpAny_Name (wpAny_loadName_local (v := v) rfl rfl F4.ns rfl ?_) rfl
  refine wpAny_Name (wpAny_loadName_local (v := .ref x) rfl rfl F4.ns rfl ?_) rfl
  refine set_plain X4 (ox := excO C t') (od := none) ⟨hx4, rfl, rfl, trivial⟩ T.sa ?_
  refine exc_osa X4 hx4 hcl (show refsVE (.ref C :: bm) = true from hbm) rfl T.noN (fun h5 tk5 dx k5 dn dne hx5 hn5 => ?_)
  have zz : s.heap.objs.size < h4.objs.size := F4.ns.lt
  exact wpAny_execs_nil (hq h5 tk5 dx t' ⟨fun b o e => k5 b o (fun z => by rw [z, hxn] at e; cases e) (F4.keep b o e), hx5, Nat.le_trans hsz (Nat.le_trans (Nat.le_of_lt zz) dn), dne, hn5⟩)
end
/-- a made one -/
structure BtMade (h h' : Heap) (e C d : Addr) (v : Value) : Prop where
  keep : ∀ b o, h.get? b = some o → h'.get? b = some o
  big : h.objs.size ≤ e
  obj : ∃ t1 : Addr, h'.get? e = some { cls := .ref C, dict := some d, data := .fields #[.ref t1, .none, .none, .none, .bool false, .none] }
  dbig : h.objs.size ≤ d
  dne : d ≠ e
  ns : h'.Ns1 d (fun y => if y = "name" then some v else none)
section
variable {prog : Program} {w : World} {A : Around} {R : Result → Shared → Prop} {s : Shared} {K : Frag} {mg : Str → Option Value} {x0 : Str} {C fI : Addr}
theorem bt_made (T : ErrTxt prog K mg x0 C fI) {v : Value} (X : K.In s.heap) (G : s.heap.Ns mainGlobals mg) (Bl : ∃ mb, s.heap.Ns builtinsNs mb ∧ mb "super" = some (.type "super")) (hlim : s.heap.NoLimit) (hroom : A.depth + 1 < recursionLimit)
    (hq : ∀ h' tk' e d, BtMade s.heap h' e C d v → R (.ok (.ret (.ref e))) { s with heap := h', toks := tk' }) : codeAny (model prog w) A (.call (.ref C) ⟨[v], []⟩) R s := by
  obtain ⟨nm, q, N, bs, bm, sn, sub, ab, col, dd, k0, k1, k2, k3, k5, hC, hbm⟩ := T.cls
  obtain ⟨g0, gs, dr, t, os⟩ := s
  let g2 : Heap := (g0.push (kdv_tup [v])).push (excO C g0.objs.size)
  have up : ∀ b o, g0.get? b = some o → g2.get? b = some o := fun b o e => Heap.get?_push_of_some _ (Heap.get?_push_of_some _ e)
  have at1 : g2.get? (g0.objs.size + 1) = some (excO C g0.objs.size) := by
    show ((g0.push (kdv_tup [v])).push (excO C g0.objs.size)).get? (g0.objs.size + 1) = _
    heap_get
  have sz2 : g2.objs.size = g0.objs.size + 1 + 1 := by
    show ((g0.push (kdv_tup [v])).push (excO C g0.objs.size)).objs.size = _
    rw [Heap.size_push, Heap.size_push]
  have free1 : g0.get? (g0.objs.size + 1) = none := by
    cases e : g0.get? (g0.objs.size + 1) with
    | none => rfl
    | some o => exact absurd (Nat.lt_of_succ_lt (Heap.lt_size e)) (Nat.lt_irrefl _)
  refine call_own F.excBase_ValueError (fun Y => refsVE_contains Y bm hbm) (X _ _ hC) (looks_findIn X T.iC) (fun self => bind_fn X self T.tC) (len1 _) ?_
  refine bt_init (s := ⟨g2, gs, dr, t, os⟩) (hp := g0) T X G Bl (hlim.keeps up) up (by show g0.objs.size ≤ g2.objs.size; omega) at1 free1 hroom fun h' t' dx t1 ⟨k, ho, dbig, dne, hns⟩ => ?_
  exact ⟨rfl, hq h' t' (g0.objs.size + 1) dx ⟨k, Nat.le_succ _, ⟨t1, ho⟩, dbig, dne, hns⟩⟩
end
end FsBname
namespace FsBname
open PySem PySem.Spec PyProof.Rows L2
theorem relO_one {v : V} {u : Value} (r : RelV v u) (g : Str) : RelO (List.lookup g [(("name" : Str), v)]) (if g = "name" then some u else none) := by
  by_cases h : g = "name"
  · rw [h, if_pos rfl, show List.lookup ("name" : Str) [(("name" : Str), v)] = some v by simp [List.lookup]]
    exact r
  · rw [if_neg h, show List.lookup g [(("name" : Str), v)] = none by simp [List.lookup, show (g == "name") = false by simpa using h]]
    trivial
/-- X(v), its one field v -/
def tNew (C : Addr) (te : TE) : TE := fun σ H Q => te σ H fun v H1 => ∀ a d, H1 a = none → H1 d = none → d ≠ a → Q (.ref a) (upd (upd H1 a (exo a C (some d))) d (exd d [("name", v)]))
theorem pe_new {X : Cx} {C fI : Addr} {x : Str} {e : Expr} {te : TE} {p pos : Pos} (T : ErrTxt X.prog X.K X.mg x C fI) (hr : Room 2 X.A) (he : PE X e te) (hg : Gl X x) (hdb : (x == ("__debug__" : Str)) = false := by decide)
    (hs : starEach [e] X.env = (false, eval e X.env) :: starEach [] X.env := by rfl) (hpl : (backTo pos (starEach [] X.env)).any (·.1) = false := by rfl) : PE X (.Call (.Name x p) [e] [] pos) (tNew C te) := by
  refine ⟨fun pins s σ H Q I h => ?_⟩
  refine wpAny_Call_Name_kw (ld_glob I hg T.gC ?_ hdb)
  refine PySem.W.callWith_K (h₀ := X.base) I.ok.mod.kin T.kC ?_ hs hpl
  rw [hs]
  refine Calls.spliced_cons (thn (he.run pins s σ H _ I h) fun u s1 ⟨v, H1, I1, r1, q1⟩ => ?_)
  refine Calls.spliced_nil ⟨I1.kIn, ?_⟩
  show wpAny _ _ (call (.ref C) [u]) _ _ _
  have lim := I1.nolimit
  obtain ⟨mb, b1, b2⟩ := I1.ok.mod.blt
  have gl : s1.heap.Ns mainGlobals X.mg := I1.ok.mod.glob.keeps I1.bk
  have bl : ∃ mb, s1.heap.Ns builtinsNs mb ∧ mb "super" = some (.type "super") := ⟨mb, b1.keeps I1.bk, (b2 _ (by decide)).trans Boot.«super»⟩
  obtain ⟨g0, gs, dr, t, os⟩ := s1
  refine wpAny_call (bt_made T I1.kIn gl bl lim (by have := hr.dp; omega) fun h' t' a d M => ?_)
  obtain ⟨t1, ho⟩ := M.obj
  obtain ⟨G, ge1, ge2⟩ := restrict h' fun b => decide (b ≠ d)
  have same : ∀ b, b ≠ d → G.get? b = h'.get? b := fun b hb => ge1 b (decide_eq_true hb)
  have gone : G.get? d = none := ge2 d (by simp)
  have old : ∀ b o, g0.get? b = some o → G.get? b = some o := fun b o z => (same b (Nat.ne_of_lt (Nat.lt_of_lt_of_le (Heap.lt_size z) M.dbig))).trans (M.keep b o z)
  have na := I1.hok.fresh M.big
  have nd := I1.hok.fresh M.dbig
  have I2 : Inv X pins σ (upd H1 a (exo a C (some d))) ⟨G, gs, dr, t', os⟩ := I1.laid (t' := t') old M.big (exo_ok ((same a (Ne.symm M.dne)).trans ho))
  have I3 := I2.laidN (h' := h') (a := d) (o := exd d [("name", v)]) (t' := t') (fun b o z => by
    by_cases hb : b = d
    · rw [hb, gone] at z
      cases z
    · exact (same b hb).symm.trans z) gone (by rw [upd_ne M.dne]; exact nd) (exd_ok M.ns (relO_one r1))
  exact ⟨.ref a, _, I3, rfl, q1 a d na nd M.dne⟩
end FsBname

set_option Elab.async false
set_option linter.all false
set_option maxRecDepth 100000
set_option maxHeartbeats 2000000
/-! a op b, both instances of one class of the program that defines the operator. -/
namespace FsR
open PySem PySem.Spec PyProof.Rows L2 ClX
structure OpM (K : PySem.W.Frag) (C : Addr) (op : Operator) (g : Addr) : Prop where
  fst : PySem.W.selfFirst K C = true
  at_ : PySem.W.findIn K (.ref C) (PySem.dunder op.info.2) = some (some (.ref g))
  fn : PySem.W.isFn K (.ref g) = true
/-- a op b -/
def tOwn (C : Addr) (sp : Sp) (E : L2.St → XK) (ta tb : TE) : TE := fun σ H Q => ta σ H fun x H1 => tb σ H1 fun y H2 => ∃ (a b dx dy : Addr) (fs gs : List (Str × V)), x = .ref a ∧ y = .ref b ∧ H2 a = some (.ins C dx fs) ∧ H2 b = some (.ins C dy gs) ∧ sp [.ref a, .ref b] H2 Q (E σ)
theorem no_notimpl {y : V} (r : RelV y Value.notImplemented) : False := by
  cases y <;> first | (obtain ⟨t, e⟩ := r; cases e; done) | (cases r; done)
theorem pe_own {X : Cx} {CX : CXT} {k : Nat} {C g : Addr} {fd : FuncData} {ps : List Str} {sp : Sp} {E : L2.St → XK} {ea eb : Expr} {op : Operator} {pos : Pos} {ta tb : TE} (ha : PE X ea ta) (hb : PE X eb tb) (M : OpM X.K C op g) (F : FnOk X.prog X.w X.K X.mg X.base CX k g fd ps sp) (hr : Room k X.A) (hd : Binds X.K fd ps [])
    (hx : ∀ σ, PassesAt CX X σ (E σ)) : PE X (.BinOp ea op eb pos) (tOwn C sp E ta tb) := by
  refine ⟨fun pins s σ H Q I h => wpAny_BinOp (binT ha hb I h fun v u s2 x y H2 I2 rx ry q => ?_)⟩
  obtain ⟨a, b, dx, dy, fs, gs, rfl, rfl, h1, h2, q⟩ := q
  obtain rfl : v = Value.ref a := rx
  obtain rfl : u = Value.ref b := ry
  obtain ⟨_, O1, _, _, _, _⟩ := ins_get I2.hok h1
  obtain ⟨_, O2, _, _, _, _⟩ := ins_get I2.hok h2
  obtain ⟨_, i1, _⟩ := O1.look
  obtain ⟨_, i2, _⟩ := O2.look
  obtain ⟨m, fr⟩ := I2.fr
  refine PySem.W.binop_K fr I2.ok.mod.kin i1 i2.type M.fst M.at_ M.fn (wpAny_mono (run_fnS (us := [.ref a, .ref b]) (vs := [.ref a, .ref b]) F hr hd (hx σ) I2 (.cons rfl (.cons rfl .nil)) q) (fun w s' hw => ?_) fun _ _ z => z)
  obtain ⟨y, H', J, r, q'⟩ := hw
  have fin : EP X pins σ Q w s' := ⟨y, H', J, r, q'⟩
  cases w with
  | notImplemented => exact no_notimpl r
  | _ => exact fin
end FsR

set_option Elab.async false
set_option linter.all false
set_option maxRecDepth 100000
set_option maxHeartbeats 2000000
/-! o[i] = v and x in o by an own class's methods; dict(()) and dict(d). -/
namespace FsR
open PySem PySem.Spec PyProof.Rows L2 Evl
structure StM (K : PySem.W.Frag) (C : Addr) (g : Addr) : Prop where
  at_ : PySem.W.findIn K (.ref C) "__setitem__" = some (some (.ref g))
  fn : PySem.W.isFn K (.ref g) = true
  nq : PySem.W.noSeq K C = true
structure CoM (K : PySem.W.Frag) (C : Addr) (g : Addr) : Prop where
  at_ : PySem.W.findIn K (.ref C) "__contains__" = some (some (.ref g))
  fn : PySem.W.isFn K (.ref g) = true
section
variable {X : Cx} {CX : CXT} {k : Nat} {C g : Addr} {fd : FuncData} {ps : List Str} {sp : Sp} {E : L2.St → XK} {pos : Pos}
/-- o[i] = v -/
def gSubO (C : Addr) (sp : Sp) (E : L2.St → XK) (to ti : TE) : TG := fun v σ H Q => to σ H fun o H1 => ti σ H1 fun i H2 => ∃ (a dx : Addr) (fs : List (Str × V)), o = .ref a ∧ H2 a = some (.ins C dx fs) ∧ sp [.ref a, i, v] H2 (fun _ H3 => Q σ H3) (E σ)
theorem pg_subO {o i : Expr} {to ti : TE} (ho : PE X o to) (hi : PE X i ti) (M : StM X.K C g) (F : FnOk X.prog X.w X.K X.mg X.base CX k g fd ps sp) (hr : Room k X.A) (hd : Binds X.K fd ps []) (hx : ∀ σ, PassesAt CX X σ (E σ))
    (ha : ∀ v, assign (.Subscript o i pos) X.env v = (do
      let ov ← holding [v] (eval o X.env)
      let iv ← holding [v, ov] (eval i X.env)
      standAt pos
      holding [v, ov, iv] (setItem ov iv v)
      release [v, ov, iv] []) := by intro _; rfl) : PG X (.Subscript o i pos) (gSubO C sp E to ti) := by
  refine ⟨fun pins s σ H v u Q I r h => ?_⟩
  rw [ha]
  refine wpAny_bind (wpAny_holding (thn (ho.run pins s σ H _ I h) fun ov s1 ⟨x, H1, I1, r1, q1⟩ => ?_))
  refine wpAny_bind (wpAny_holding (thn (hi.run pins s1 σ H1 _ I1 q1) fun iv s2 ⟨y, H2, I2, r2, q2⟩ => ?_))
  obtain ⟨a, dx, fs, ex, h2, q3⟩ := q2
  subst ex
  obtain rfl : ov = Value.ref a := r1
  obtain ⟨_, O1, _⟩ := ins_get I2.hok h2
  obtain ⟨_, i1, _⟩ := O1.look
  obtain ⟨m, fr⟩ := I2.fr
  refine wpAny_bind (wpAny_standAt (wpAny_bind (wpAny_holding ?_)))
  refine PySem.W.ksp_setItem fr I2.ok.mod.kin i1 M.nq M.at_ M.fn (wpAny_mono (run_fnS (us := [.ref a, iv, u]) (vs := [.ref a, y, v]) F hr hd (hx σ) I2 (.cons rfl (.cons r2 (.cons r .nil))) q3) (fun w s' z => ?_) fun _ _ z => z)
  obtain ⟨y', H', J, _, q'⟩ := z
  exact wpAny_release ⟨σ, H', J, q'⟩
/-- x in o -/
def rInO (C : Addr) (sp : Sp) (E : XK) (neg : Bool) : R2 := fun x y H Q => ∃ (a dx : Addr) (fs : List (Str × V)), y = .ref a ∧ H a = some (.ins C dx fs) ∧ sp [.ref a, x] H (fun v H' => ∃ b, v = .bl b ∧ Q (.bl (if neg then !b else b)) H') E
theorem op_inO {E : XK} (M : CoM X.K C g) (F : FnOk X.prog X.w X.K X.mg X.base CX k g fd ps sp) (hr : Room k X.A) (hd : Binds X.K fd ps []) (hx : ∀ σ, PassesAt CX X σ E) : OpR X (compareOp .In) (rInO C sp E false) := by
  intro pins s σ H x y v u Q I rx ry h
  obtain ⟨a, dx, fs, rfl, h1, q⟩ := h
  obtain rfl : u = Value.ref a := ry
  obtain ⟨_, O1, _⟩ := ins_get I.hok h1
  obtain ⟨_, i1, _⟩ := O1.look
  obtain ⟨m, fr⟩ := I.fr
  refine PySem.W.in_K fr I.ok.mod.kin i1 M.at_ M.fn (wpAny_mono (run_fnS (E := fun _ => E) (us := [.ref a, v]) (vs := [.ref a, x]) F hr hd (hx σ) I (.cons rfl (.cons rx .nil)) q) (fun w s' z => ?_) fun _ _ z => z)
  obtain ⟨y, H', J, r, b, ey, q'⟩ := z
  subst ey
  cases r
  exact wpAny_pure ⟨.bl b, H', J, rfl, q'⟩
theorem op_niO {E : XK} (M : CoM X.K C g) (F : FnOk X.prog X.w X.K X.mg X.base CX k g fd ps sp) (hr : Room k X.A) (hd : Binds X.K fd ps []) (hx : ∀ σ, PassesAt CX X σ E) : OpR X (compareOp .NotIn) (rInO C sp E true) := by
  intro pins s σ H x y v u Q I rx ry h
  obtain ⟨a, dx, fs, rfl, h1, q⟩ := h
  obtain rfl : u = Value.ref a := ry
  obtain ⟨_, O1, _⟩ := ins_get I.hok h1
  obtain ⟨_, i1, _⟩ := O1.look
  obtain ⟨m, fr⟩ := I.fr
  refine PySem.W.notIn_K fr I.ok.mod.kin i1 M.at_ M.fn (wpAny_mono (run_fnS (E := fun _ => E) (us := [.ref a, v]) (vs := [.ref a, x]) F hr hd (hx σ) I (.cons rfl (.cons rx .nil)) q) (fun w s' z => ?_) fun _ _ z => z)
  obtain ⟨y, H', J, r, b, ey, q'⟩ := z
  subst ey
  cases r
  exact wpAny_pure ⟨.bl (!b), H', J, rfl, q'⟩
end
/-- an empty tuple of the written part -/
def Tup0 (K : PySem.W.Frag) (a : Addr) : Prop := ∃ o n, K.lookup a = some o ∧ o.cls = .type "tuple" ∧ o.dict = none ∧ o.data = .seq #[] n
theorem call_dict0 {X : Cx} (hcalm : X.calm = true) : CallR X (.type "dict") (fun xs H Q => ∃ a : Addr, xs = [.ref a] ∧ Tup0 X.K a ∧ ∀ p, H p = none → Q (.ref p) (upd H p (.dK []))) := by
  intro pins s σ H xs us Q I r q
  obtain ⟨a, ex, ⟨o, n, hk, hc, hdc, hdat⟩, q⟩ := q
  subst ex
  obtain ⟨u, eu, rx⟩ := vals1 r
  subst eu
  cases rx
  have ho := I.kIn a o hk
  refine PySem.call_dict_pairs (knd := mixKind X.prog X.w) (kvs := []) (PySem.PairArg.tuple a #[] (fun _ => 0) []) (I.ok.hd hcalm) ⟨⟨o, n, ho, hc, hdc, hdat⟩, rfl, fun j k v e => by simp at e⟩ ⟨rfl, fun i key v e => by simp [PySem.PairRel] at e⟩ (Nat.zero_le _) (fun h' tk hd' k => ?_)
  have hm : (s.heap.objs.size == sysModules) = false := beq_eq_false_iff_ne.mpr (Nat.ne_of_gt I.big)
  exact ⟨.ref s.heap.objs.size, upd H s.heap.objs.size (.dK []), I.laid (t' := tk) (fun b u e => k b u (by simp) e) (Nat.le_refl _) (show ObjOk X.prog X.w _ _ _ (.dK []) from ⟨Nat.zero_le _, hm, [], .nil, hd'⟩), rfl, q _ (I.hok.fresh (Nat.le_refl _))⟩
/-- dict(()), dict(d) -/
def rDictA (K : PySem.W.Frag) : List V → Hp → VK → Prop := fun xs H Q => (∃ a : Addr, xs = [.ref a] ∧ Tup0 K a ∧ ∀ p, H p = none → Q (.ref p) (upd H p (.dK []))) ∨ ∃ (a : Addr) (kvs : List (Key × V)), xs = [.ref a] ∧ Rd H a (.dK kvs) ∧ ∀ p, H p = none → Q (.ref p) (upd H p (.dK kvs))
theorem call_dictA {X : Cx} (hcalm : X.calm = true) : CallR X (.type "dict") (rDictA X.K) := fun pins s σ H xs us Q I r q => q.elim (fun z => call_dict0 hcalm pins s σ H xs us Q I r z) fun z => call_dictD pins s σ H xs us Q I r z
end FsR

set_option Elab.async false
set_option linter.all false
set_option maxRecDepth 100000
set_option maxHeartbeats 2000000
/-! {**a, k: v}, {**a, **b} -/
namespace FsD
open PySem PySem.Spec PyProof.Rows L2 Evl
section
variable {prog : Program} {w : World} {K : Type} [DecidableEq K] {knd : KeyKind prog w K} {A : Around} {E : Value → Shared → Prop} {s : Shared}
theorem dictPut_pairs {d : Addr} {kvs : List (K × Value)} {k : K} {key v : Value} {Q : Unit → Shared → Prop} (hkey : knd.is k key = true) (hm : s.heap.DictOf knd d kvs)
    (hQ : ∀ h', h'.DictOf knd d (stored kvs k v) → Heap.SameBut d s.heap h' → Q () { s with heap := h' }) (hsz : kvs.length ≤ sizeLine) : wpAny (model prog w) A (dictPut d (knd.hash k) key v) Q E s := by
  obtain ⟨o, es, ep, ho, hc, hd, hk, hp, hn⟩ := hm
  have hes : es.size ≤ sizeLine := by
    have e1 := hp.length
    have e2 : es.toList.length = es.size := by simp
    omega
  unfold dictPut
  refine wpAny_bind (wpAny_dictFind_of hkey ho hd hk ?_)
  have hidx : (es.findIdx? fun e => knd.is k e.key) = kvs.findIdx? fun kv => decide (kv.1 = k) := by
    rw [← hp.findIdx k]; obtain ⟨l⟩ := es; simp
  cases hi : es.findIdx? fun e => knd.is k e.key with
  | some i =>
    refine wpAny_updateDict ho hd (hQ _ ⟨_, _, ep, Heap.get?_update_self _ ho (Obj.isFreed_of_dict (Obj.data_mapDict hd _)),
      hc.mapDict _, Obj.data_mapDict hd _, hk.modify _ _, ?_, ?_⟩ (Heap.SameBut.update ..))
    · rw [stored, if_pos (any_of_findIdx_some (hidx ▸ hi))]
      have hl : (es.toList.findIdx? fun e => knd.is k e.key) = some i := by rw [← hi]; obtain ⟨l⟩ := es; simp
      have := hp.modify hn hl v
      obtain ⟨l⟩ := es
      simpa using this
    · rw [stored, if_pos (any_of_findIdx_some (hidx ▸ hi)), keys_map_store]; exact hn
  | none =>
    have hnot : k ∉ kvs.map (·.1) := not_mem_of_findIdx_none (hidx ▸ hi)
    have hany : ¬ (kvs.any fun kv => decide (kv.1 = k)) = true := by
      rw [List.any_eq_true]; rintro ⟨kv, hkv, he⟩
      exact hnot (List.mem_map.mpr ⟨kv, hkv, of_decide_eq_true he⟩)
    refine wpAny_updateDictKeys (hz := hes) ho hd (hQ _ ⟨_, _, ep + 1, Heap.get?_update_self _ ho (Obj.isFreed_of_dict (Obj.data_mapDictKeys hd _)),
      hc.mapDictKeys _, Obj.data_mapDictKeys hd _, hk.push hkey _, ?_, ?_⟩ (Heap.SameBut.update ..))
    · rw [stored, if_neg hany]
      have := hp.append hkey (knd.hash k) v
      obtain ⟨l⟩ := es
      simpa using this
    · rw [stored, if_neg hany, List.map_append, List.nodup_append]
      refine ⟨hn, by simp, ?_⟩
      intro a ha b hb
      simp only [List.map_cons, List.map_nil, List.mem_singleton] at hb
      subst hb
      exact fun e => hnot (e ▸ ha)
end
section
variable {prog : Program} {w : World} {A : Around} {E : Value → Shared → Prop} {s : Shared}
theorem mix_noref {k : Key} {v : Value} (h : (mixKind prog w).is k v = true) : ∀ a, v ≠ .ref a := fun a z => by
  subst z
  rcases keyIs_shape h with ⟨i, t, _, e⟩ | ⟨x, t, _, e⟩ <;> cases e
theorem mergeMap {d o : Addr} {kvs more : List (Key × Value)} {Q : Unit → Shared → Prop} (hdo : d ≠ o) (hoS : (o == sysModules) = false)
    (hd : s.heap.DictOf (mixKind prog w) d kvs) (ho : s.heap.DictOf (mixKind prog w) o more)
    (hQ : ∀ h', h'.DictOf (mixKind prog w) d (merged kvs more) → h'.DictOf (mixKind prog w) o more → Heap.SameBut d s.heap h' → Q () { s with heap := h' })
    (hsz : kvs.length + more.length ≤ sizeLine) : wpAny (model prog w) A (mergeMapping d (.ref o) false) Q E s := by
  obtain ⟨od, esd, epd, hod, hcd, hdd, hkd, hpd, hnd⟩ := id hd
  obtain ⟨oo, eso, epo, hoo, hco, hdo', hko, hpo, hno⟩ := id ho
  have hlen : more.length = eso.size := by rw [← hpo.length]; simp
  unfold mergeMapping
  refine wpAny_bind (m := isInstance (.ref o) (.type "dict")) (wpAny_isInstance ho.typeIs isSubtype_dict_dict ?_)
  rw [if_pos rfl]
  refine wpAny_bind (m := specialOf _ _) (wpAny_specialOf ho.typeIs F.slot_dict_iter.lookup ?_)
  show wpAny _ _ (if (o == sysModules) = true then _ else _) _ _ _
  rw [if_neg (by rw [hoS]; exact Bool.false_ne_true)]
  refine wpAny_bind (m := dictEntries d) (wpAny_dictEntries hod hdd ?_)
  have loop : wpAny (model prog w) A (do
      let l ← dictEntries o
      let epoch ← dictEpoch o
      forIn (List.range l.size) PUnit.unit fun i (_ : PUnit) => (do
          let l' ← dictEntries o
          match l'[i]? with
            | some e => do
              holding [e.key, e.val] (dictPut d e.hash e.key e.val)
              let ep' ← dictEpoch o
              if (ep' != epoch) = true then do
                  (unsupported "dict.changed-during-merge" : Sem PUnit)
                  pure (ForInStep.yield PUnit.unit)
                else pure (ForInStep.yield PUnit.unit)
            | _ => do
              (unsupported "dict.changed-during-merge" : Sem PUnit)
              pure (ForInStep.yield PUnit.unit) : Sem (ForInStep PUnit))
      pure ()) Q E s := by
    refine wpAny_bind (wpAny_dictEntries hoo hdo' ?_)
    refine wpAny_bind (wpAny_dictEpoch hoo hdo' ?_)
    refine wpAny_bind ?_
    rw [List.range_eq_range']
    refine wpAny_forIn_list _
      (fun rest _ s' => ∃ h' i, s' = { s with heap := h' } ∧ rest = List.range' i (eso.size - i) ∧ i ≤ eso.size ∧ h'.DictOf (mixKind prog w) d (merged kvs (more.take i)) ∧ h'.get? o = some oo ∧ Heap.SameBut d s.heap h')
      _ ?_ ?_ _ _ ⟨s.heap, 0, rfl, by simp, Nat.zero_le _, by simpa [merged] using hd, hoo, Heap.SameBut.refl _ _⟩
    · rintro x rest b s' ⟨h', i, rfl, hr, hi, hd', hoo', hs'⟩
      have hlt : i < eso.size := by
        rcases Nat.lt_or_ge i eso.size with h | h
        · exact h
        · rw [Nat.sub_eq_zero_of_le h] at hr; simp at hr
      obtain ⟨rfl, hrest⟩ : x = i ∧ rest = List.range' (i + 1) (eso.size - (i + 1)) := by
        have e : eso.size - i = (eso.size - (i + 1)) + 1 := by omega
        rw [e, List.range'_succ] at hr
        injection hr with h1 h2
        exact ⟨h1, h2⟩
      refine wpAny_bind (wpAny_dictEntries hoo' hdo' ?_)
      rw [Array.getElem?_eq_getElem hlt]
      obtain ⟨kv, hkv⟩ : ∃ kv, more[x]? = some kv := ⟨more[x]'(by rw [hlen]; exact hlt), List.getElem?_eq_getElem _⟩
      obtain ⟨k, v⟩ := kv
      obtain ⟨hkey, hval⟩ := hpo.get? (e := eso[x]) (by simp [hlt]) hkv
      obtain ⟨k', hkey', hhash⟩ := hko eso[x] (Array.getElem_mem hlt)
      obtain rfl : k' = k := (mixKind prog w).inj _ _ _ hkey' hkey
      show wpAny _ _ (holding [eso[x].key, eso[x].val] (dictPut d eso[x].hash eso[x].key eso[x].val) >>= _) _ _ _
      rw [hhash, hval]
      have hmx : (merged kvs (more.take x)).length ≤ sizeLine := by
        have e1 := merged_length_le kvs (more.take x)
        have e2 : (more.take x).length ≤ more.length := by rw [List.length_take]; omega
        omega
      refine wpAny_bind (wpAny_holding (dictPut_pairs (hsz := hmx) hkey hd' fun h'' hd'' hs'' => ?_))
      have hoo'' : h''.get? o = some oo := (hs''.2 o (Ne.symm hdo)).trans hoo'
      refine wpAny_bind (wpAny_dictEpoch hoo'' hdo' ?_)
      rw [if_neg (by simp)]
      exact wpAny_pure ⟨h'', x + 1, rfl, hrest, hlt, by rw [merged_take_succ kvs more x (k', v) hkv]; exact hd'', hoo'', hs'.trans hs''⟩
    · rintro b s' ⟨h', i, rfl, hr, hi, hd', hoo', hs'⟩
      have hin : i = eso.size := by
        rcases Nat.lt_or_ge i eso.size with h | h
        · have e : eso.size - i = (eso.size - (i + 1)) + 1 := by omega
          rw [e, List.range'_succ] at hr; exact nomatch hr
        · exact Nat.le_antisymm hi h
      refine wpAny_pure (hQ h' ?_ ⟨oo, eso, epo, hoo', hco, hdo', hko, hpo, hno⟩ hs')
      rw [hin, ← hlen, List.take_length] at hd'; exact hd'
  show wpAny _ _ (if esd.isEmpty = true then _ else _) _ _ _
  by_cases hemp : esd.isEmpty = true
  · rw [if_pos hemp]
    refine wpAny_bind (m := dictEntries o) (wpAny_dictEntries hoo hdo' ?_)
    refine wpAny_bind ?_
    rw [← Array.forIn_toList]
    refine wpAny_forIn_list _ (fun rest _ s' => s' = s ∧ ∀ e ∈ rest, e ∈ eso.toList) _ ?_ ?_ _ _ ⟨rfl, fun e he => he⟩
    · rintro x rest b s' ⟨rfl, hr⟩
      have hm := hr x List.mem_cons_self
      obtain ⟨k', hkey', _⟩ := hko x (by simpa using hm)
      have nr := mix_noref hkey'
      cases hx : x.key with
      | ref a => exact absurd hx (nr a)
      | _ => exact wpAny_pure ⟨rfl, fun e he => hr e (List.mem_cons_of_mem _ he)⟩
    · rintro b s' ⟨rfl, _⟩
      exact loop
  · rw [if_neg hemp]
    exact loop
end
end FsD

set_option Elab.async false
set_option linter.all false
set_option maxRecDepth 100000
set_option maxHeartbeats 2000000
namespace FsD
open PySem PySem.Spec PyProof.Rows L2 Evl
theorem disp_1 {va vk vv : Sem Value} : dictDisplay [(none, va), (some vk, vv)] = (do
      let x ← alloc { cls := Value.type "dict", data := Data.dict #[] }
      let x_1 ← holding [Value.ref x] va
      (((holding [Value.ref x, x_1] (mergeMapping x x_1 false)).onRaise fun x_2 => do
                  let _ ← holding [Value.ref x, x_1, x_2] (runValue (Code.builtin "proto.let_go" { }))
                  pure ()).tryCatch
              fun e => do
              let b ← isInstance e (Value.type "AttributeError")
              if b = true then do
                  rule "dict.display.not-a-mapping"
                  let nm ← typeNameOf x_1
                  raiseErrorMade "TypeError"
                      (toString "'" ++ toString nm ++ toString "' object is not a mapping")
                  throw e
                else throw e).onRaise
          fun x_2 => do
          let _ ← holding [Value.ref x, x_2] (runValue (Code.builtin "proto.let_go" { }))
          pure ()
      let x_3 ← holding [Value.ref x] (subDict [(vk, vv)])
      (holding [Value.ref x, Value.ref x_3] (mergeMapping x (Value.ref x_3) false)).onRaise fun x_4 => do
          let _ ← holding [Value.ref x, x_4] (runValue (Code.builtin "proto.let_go" { }))
          pure ()
      pure (Value.ref x)) := by
  unfold dictDisplay
  dsimp only
  simp only [List.forIn_cons, List.forIn_nil, List.isEmpty_nil, if_true, pure_bind, bind_assoc, List.nil_append, List.length_singleton, List.isEmpty_cons, Bool.false_eq_true, if_false, show ((1 : Nat) == 17) = false from rfl]
theorem disp_2 {va vb : Sem Value} : dictDisplay [(none, va), (none, vb)] = (do
      let x ← alloc { cls := Value.type "dict", data := Data.dict #[] }
      let x_1 ← holding [Value.ref x] va
      (((holding [Value.ref x, x_1] (mergeMapping x x_1 false)).onRaise fun x_2 => do
                  let _ ← holding [Value.ref x, x_1, x_2] (runValue (Code.builtin "proto.let_go" { }))
                  pure ()).tryCatch
              fun e => do
              let b ← isInstance e (Value.type "AttributeError")
              if b = true then do
                  rule "dict.display.not-a-mapping"
                  let nm ← typeNameOf x_1
                  raiseErrorMade "TypeError"
                      (toString "'" ++ toString nm ++ toString "' object is not a mapping")
                  throw e
                else throw e).onRaise
          fun x_2 => do
          let _ ← holding [Value.ref x, x_2] (runValue (Code.builtin "proto.let_go" { }))
          pure ()
      let x_1 ← holding [Value.ref x] vb
      (((holding [Value.ref x, x_1] (mergeMapping x x_1 false)).onRaise fun x_2 => do
                  let _ ← holding [Value.ref x, x_1, x_2] (runValue (Code.builtin "proto.let_go" { }))
                  pure ()).tryCatch
              fun e => do
              let b ← isInstance e (Value.type "AttributeError")
              if b = true then do
                  rule "dict.display.not-a-mapping"
                  let nm ← typeNameOf x_1
                  raiseErrorMade "TypeError"
                      (toString "'" ++ toString nm ++ toString "' object is not a mapping")
                  throw e
                else throw e).onRaise
          fun x_2 => do
          let _ ← holding [Value.ref x, x_2] (runValue (Code.builtin "proto.let_go" { }))
          pure ()
      pure (Value.ref x)) := by
  unfold dictDisplay
  dsimp only
  simp only [List.forIn_cons, List.forIn_nil, List.isEmpty_nil, if_true, pure_bind, bind_assoc, List.nil_append, List.length_singleton, List.isEmpty_cons, Bool.false_eq_true, if_false, show ((1 : Nat) == 17) = false from rfl]
/-- {**a, k: v} -/
def tStar1 (ta tk tv : TE) : TE := fun σ H Q => ∀ d, H d = none → ta σ (upd H d (.dK [])) fun x H1 => ∃ (a : Addr) (kvs : List (Key × V)), x = .ref a ∧ a ≠ d ∧ H1 d = some (.dK []) ∧ H1 a = some (.dK kvs) ∧ kvs.length ≤ 10000 ∧
  ∀ p, H1 p = none → tk σ (upd (upd H1 d (.dK (mergeK [] kvs))) p (.dK [])) fun kx H3 => tv σ H3 fun vx H4 => ∃ key, kx = kV key ∧ H4 p = some (.dK []) ∧ H4 d = some (.dK (mergeK [] kvs)) ∧
    Q (.ref d) (upd (upd H4 p (.dK (mergeK [] [(key, vx)]))) d (.dK (mergeK (mergeK [] kvs) (mergeK [] [(key, vx)]))))
section
variable {X : Cx} {ea eb ek ev : Expr} {ta tb tk tv : TE} {pos : Pos}
theorem merge_step {pins : List (Addr × Obj)} {σ : L2.St} {H : Hp} {s : Shared} {d a : Addr} {kvs more : List (Key × V)} {A : Around} {E : Value → Shared → Prop} {Q : Unit → Shared → Prop} (I : Inv X pins σ H s) (hne : a ≠ d) (hd : H d = some (.dK kvs)) (ha : H a = some (.dK more)) (hz : kvs.length + more.length ≤ 20000)
    (k : ∀ s', Inv X pins σ (upd H d (.dK (mergeK kvs more))) s' → Q () s') : wpAny (model X.prog X.w) A (mergeMapping d (.ref a) false) Q E s := by
  obtain ⟨z1, y1, v1, r1, d1⟩ := dk_of I.hok hd
  obtain ⟨z2, y2, v2, r2, d2⟩ := dk_of I.hok ha
  have hl : v1.length + v2.length ≤ sizeLine := by
    rw [← r1.length, ← r2.length, sizeLine_eq]
    omega
  refine mergeMap (Ne.symm hne) y2 d1 d2 (fun h' dd' _ hs => ?_) hl
  have he : ∃ q, h'.get? d = some q := let ⟨q, _, _, hq, _⟩ := dd'; ⟨q, hq⟩
  refine k _ (d_write I (by rw [hd]; exact True.intro) hs he (dk_new ?_ y1 (r2.merge r1) dd'))
  have := length_mergeK more kvs
  rw [sizeLine_eq]
  omega
theorem pe_star1 (ha : PE X ea ta) (hk : PE X ek tk) (hv : PE X ev tv) : PE X (.Dict [none, some ek] [ea, ev] pos) (tStar1 ta tk tv) := by
  refine ⟨fun pins s σ H Q I q => ?_⟩
  rw [arm_eval_Dict]
  refine wpAny_bind (wpAny_standAt ?_)
  show wpAny _ _ (dictDisplay [(none, (do let x ← eval ea X.env; standAt pos; pure x)), (some (eval ek X.env), (do let x ← eval ev X.env; standAt pos; pure x))]) _ _ _
  rw [disp_1]
  have hn := I.hok.fresh (Nat.le_refl s.heap.objs.size)
  refine wpAny_bind (wpAny_alloc ?_)
  have I1 := I.laid (a := s.heap.objs.size) (o := .dK []) (h' := s.heap.push { cls := .type "dict", data := .dict #[] }) (t' := s.toks) (fun _ _ q => Heap.get?_push_of_some _ q) (Nat.le_refl _) (dk_empty s.heap I.big)
  refine wpAny_bind (wpAny_holding (wpAny_bind (thn (ha.run pins _ σ _ _ I1 (q _ hn)) fun v s2 ⟨x, H1, I2, rx, a, kvs, ex, hne, hd, hka, hz, q2⟩ => wpAny_bind (wpAny_standAt (wpAny_pure ?_)))))
  subst ex
  obtain rfl : v = Value.ref a := rx
  refine wpAny_bind (wpAny_onRaise (wpAny_tryCatch (wpAny_onRaise (wpAny_holding (merge_step I2 hne hd hka (by rw [List.length_nil]; omega) (fun s3 I3 => ?_))))))
  have hn3 := I3.hok.fresh (Nat.le_refl s3.heap.objs.size)
  have hn1 : H1 s3.heap.objs.size = none := by
    by_cases e : s3.heap.objs.size = s.heap.objs.size
    · rw [e, upd_same] at hn3
      cases hn3
    · rw [upd_ne e] at hn3
      exact hn3
  have I4 := I3.laid (a := s3.heap.objs.size) (o := .dK []) (h' := s3.heap.push { cls := .type "dict", data := .dict #[] }) (t' := s3.toks) (fun _ _ q => Heap.get?_push_of_some _ q) (Nat.le_refl _) (dk_empty s3.heap I3.big)
  refine wpAny_bind (wpAny_holding (wpAny_subDict (knd := mixKind X.prog X.w) (by show 1 ≤ 15; decide) ?_))
  refine evalPairs_cons (thn (hk.run pins _ σ _ _ I4 (q2 _ hn1)) fun kx s5 ⟨kv, H3, I5, rk, q3⟩ => ?_)
  refine wpAny_bind (thn (hv.run pins _ σ _ _ I5 q3) fun vx s6 ⟨vv, H4, I6, rv, key, ek, hp6, hd6, q6⟩ => wpAny_bind (wpAny_standAt (wpAny_pure ?_)))
  refine evalPairs_nil ?_
  subst ek
  obtain ⟨zp, yp, vp, rp, dp⟩ := dk_of I6.hok hp6
  cases rp
  have hkv : VV ([(key, vv)].map fun kv => (kV kv.1, kv.2)) [(kx, vx)] := .cons ⟨rk, rv⟩ .nil
  obtain ⟨rs, c, rr⟩ := carries_of (P := X.prog) (w := X.w) hkv
  refine ⟨rs, c, dp, fun h' dd' hs => ?_⟩
  have he : ∃ q, h'.get? s3.heap.objs.size = some q := let ⟨q, _, _, hq, _⟩ := dd'; ⟨q, hq⟩
  have hz1 : (mergeK [] [(key, vv)]).length ≤ 1 := by
    have := length_mergeK [(key, vv)] []
    exact this
  have I7 := d_write (t' := s6.toks + [(kx, vx)].length) I6 (by rw [hp6]; exact True.intro) hs he (dk_new (by rw [sizeLine_eq]; omega) yp (rr.merge .nil) dd')
  have hpd : s3.heap.objs.size ≠ s.heap.objs.size := fun e => by
    rw [e, upd_same] at hn3
    cases hn3
  have hzk := length_mergeK kvs []
  rw [List.length_nil] at hzk
  refine wpAny_bind (wpAny_onRaise (wpAny_holding (merge_step I7 hpd (by rw [upd_ne hpd.symm]; exact hd6) upd_same (by omega) (fun s8 I8 => ?_))))
  exact wpAny_pure ⟨.ref s.heap.objs.size, _, I8, rfl, q6⟩
/-- {**a, **b} -/
def tStar2 (ta tb : TE) : TE := fun σ H Q => ∀ d, H d = none → ta σ (upd H d (.dK [])) fun x H1 => ∃ (a : Addr) (kvs : List (Key × V)), x = .ref a ∧ a ≠ d ∧ H1 d = some (.dK []) ∧ H1 a = some (.dK kvs) ∧ kvs.length ≤ 5000 ∧
  tb σ (upd H1 d (.dK (mergeK [] kvs))) fun y H2 => ∃ (b : Addr) (more : List (Key × V)), y = .ref b ∧ b ≠ d ∧ H2 d = some (.dK (mergeK [] kvs)) ∧ H2 b = some (.dK more) ∧ more.length ≤ 5000 ∧ Q (.ref d) (upd H2 d (.dK (mergeK (mergeK [] kvs) more)))
theorem pe_star2 (ha : PE X ea ta) (hb : PE X eb tb) : PE X (.Dict [none, none] [ea, eb] pos) (tStar2 ta tb) := by
  refine ⟨fun pins s σ H Q I q => ?_⟩
  rw [arm_eval_Dict]
  refine wpAny_bind (wpAny_standAt ?_)
  show wpAny _ _ (dictDisplay [(none, (do let x ← eval ea X.env; standAt pos; pure x)), (none, (do let x ← eval eb X.env; standAt pos; pure x))]) _ _ _
  rw [disp_2]
  have hn := I.hok.fresh (Nat.le_refl s.heap.objs.size)
  refine wpAny_bind (wpAny_alloc ?_)
  have I1 := I.laid (a := s.heap.objs.size) (o := .dK []) (h' := s.heap.push { cls := .type "dict", data := .dict #[] }) (t' := s.toks) (fun _ _ q => Heap.get?_push_of_some _ q) (Nat.le_refl _) (dk_empty s.heap I.big)
  refine wpAny_bind (wpAny_holding (wpAny_bind (thn (ha.run pins _ σ _ _ I1 (q _ hn)) fun v s2 ⟨x, H1, I2, rx, a, kvs, ex, hne, hd, hka, hz, q2⟩ => wpAny_bind (wpAny_standAt (wpAny_pure ?_)))))
  subst ex
  obtain rfl : v = Value.ref a := rx
  refine wpAny_bind (wpAny_onRaise (wpAny_tryCatch (wpAny_onRaise (wpAny_holding (merge_step I2 hne hd hka (by rw [List.length_nil]; omega) (fun s3 I3 => ?_))))))
  refine wpAny_bind (wpAny_holding (wpAny_bind (thn (hb.run pins _ σ _ _ I3 q2) fun v s4 ⟨y, H4, I4, ry, b, more, ey, hne2, hd2, hkb, hz2, q4⟩ => wpAny_bind (wpAny_standAt (wpAny_pure ?_)))))
  subst ey
  obtain rfl : v = Value.ref b := ry
  have hzk := length_mergeK kvs []
  rw [List.length_nil] at hzk
  refine wpAny_bind (wpAny_onRaise (wpAny_tryCatch (wpAny_onRaise (wpAny_holding (merge_step I4 hne2 hd2 hkb (by omega) (fun s5 I5 => ?_))))))
  exact wpAny_pure ⟨.ref s.heap.objs.size, _, I5, rfl, q4⟩
end
/-! read with Ev -/
theorem mergeK_ap : ∀ {more acc : List (Key × V)}, ((acc ++ more).map (·.1)).Nodup → mergeK acc more = acc ++ more
  | [], acc, _ => by rw [List.append_nil]; rfl
  | (k, v) :: more, acc, h => by
    have hk : valV acc k = none := by
      cases e : valV acc k with
      | none => rfl
      | some x =>
        exfalso
        have : k ∈ acc.map (·.1) := by
          clear h
          induction acc with
          | nil => cases e
          | cons p acc ih =>
            by_cases hp : p.1 = k
            · rw [List.map_cons, hp]
              exact List.mem_cons_self ..
            · rw [valV_neg hp] at e
              exact List.mem_cons_of_mem _ (ih e)
        rw [List.map_append, List.nodup_append] at h
        exact h.2.2 k this k (by rw [List.map_cons]; exact List.mem_cons_self ..) rfl
    show mergeK (putK acc k v) more = _
    rw [putK_new v hk, mergeK_ap (by rw [List.append_assoc]; exact h), List.append_assoc]
    rfl
theorem mergeK_nil {kvs : List (Key × V)} (h : (kvs.map (·.1)).Nodup) : mergeK [] kvs = kvs := mergeK_ap (acc := []) h
/-- a new dict -/
def EvD (te : TE) (σ : L2.St) (H : Hp) (kvs : List (Key × V)) : Prop := ∀ H1, Ex H H1 → ∀ Q : VK, (∀ p H2, H1 p = none → Ex H1 H2 → H2 p = some (.dK kvs) → Q (.ref p) H2) → te σ H1 Q
section
variable {σ : L2.St} {H : Hp} {ta tb tk tv : TE}
theorem ed_star1 {a : Addr} {kvs : List (Key × V)} {key : Key} {v : V} (ha : Ev ta σ H (.ref a)) (h : H a = some (.dK kvs)) (nd : (kvs.map (·.1)).Nodup) (hz : kvs.length ≤ 10000) (hk : Ev tk σ H (kV key)) (hv : Ev tv σ H v) : EvD (tStar1 ta tk tv) σ H (putK kvs key v) := fun H1 e Q q => fun d hd => by
  have x1 : Ex H1 (upd H1 d (.dK [])) := Ex.new hd
  refine ha _ (e.trans x1) _ fun H2 e2 => ?_
  have had : a ≠ d := ne_of_none (e _ _ h) hd
  have hd2 : H2 d = some (.dK []) := e2 _ _ upd_same
  have ha2 : H2 a = some (.dK kvs) := (x1.trans e2) _ _ (e _ _ h)
  refine ⟨a, kvs, rfl, had, hd2, ha2, hz, fun p hp => ?_⟩
  have x3 : Ex H1 (upd (upd H2 d (.dK (mergeK [] kvs))) p (.dK [])) := (Ex.mut (x1.trans e2) hd).trans (Ex.new (by
    rw [upd_ne (Ne.symm (ne_of_none hd2 hp))]
    exact hp))
  refine hk _ (e.trans x3) _ fun H4 e4 => hv H4 ((e.trans x3).trans e4) _ fun H5 e5 => ?_
  have hpd : p ≠ d := Ne.symm (ne_of_none hd2 hp)
  refine ⟨key, rfl, (e4.trans e5) _ _ upd_same, (e4.trans e5) _ _ (by rw [upd_ne hpd.symm]; exact upd_same), ?_⟩
  rw [mergeK_nil nd]
  refine q d _ hd ?_ upd_same
  refine Ex.mut (Ex.mut ((x3.trans e4).trans e5) ?_) hd
  exact fresh_back (x1.trans e2) hp
end
end FsD

set_option Elab.async false
set_option linter.all false
set_option maxRecDepth 100000
set_option maxHeartbeats 2000000
/-! two sorted lists of the same texts are one -/
namespace FsU
open PySem PySem.Spec PyProof.Rows
def leS (x y : Str) : Prop := ltCps y.cps.toList x.cps.toList = false
theorem leS_iff {x y : Str} : leS x y ↔ x.cps.toList ≤ y.cps.toList := by
  unfold leS
  rw [ltCps_eq, decide_eq_false_iff_not]
  exact List.not_lt
theorem leS_trans {x y z : Str} (h : leS x y) (g : leS y z) : leS x z := leS_iff.mpr (List.le_trans (leS_iff.mp h) (leS_iff.mp g))
theorem leS_anti {x y : Str} (h : leS x y) (g : leS y x) : x = y := by
  have e := List.le_antisymm (leS_iff.mp h) (leS_iff.mp g)
  cases x with
  | mk a =>
    cases y with
    | mk b =>
      have : a = b := Array.toList_inj.mp e
      rw [this]
theorem leS_refl (x : Str) : leS x x := leS_iff.mpr (List.le_refl _)
theorem rising_pw : ∀ {l : List Str} {p : Str}, risingS p l = true → (p :: l).Pairwise leS
  | [], p, _ => List.pairwise_singleton _ _
  | x :: l, p, h => by
    obtain ⟨h1, h2⟩ := Bool.and_eq_true_iff.mp (show (!ltCps x.cps.toList p.cps.toList && risingS x l) = true from h)
    have ih := rising_pw h2
    have hp : leS p x := by
      unfold leS
      simpa using h1
    refine List.pairwise_cons.mpr ⟨fun y hy => ?_, ih⟩
    rcases List.mem_cons.mp hy with rfl | hy
    · exact hp
    · exact leS_trans hp ((List.pairwise_cons.mp ih).1 y hy)
theorem sorted_pw {l : List Str} (h : sortedS l = true) : l.Pairwise leS := by
  cases l with
  | nil => exact .nil
  | cons x l => exact rising_pw h
theorem pw_uniq : ∀ {l m : List Str}, l.Pairwise leS → m.Pairwise leS → l.Perm m → l = m
  | [], m, _, _, h => (List.Perm.nil_eq h)
  | x :: l, m, hl, hm, h => by
    cases m with
    | nil => exact absurd h.length_eq (by simp)
    | cons y m =>
      have hx : x = y := by
        have h1 : x ∈ y :: m := h.subset (List.mem_cons_self ..)
        have h2 : y ∈ x :: l := h.symm.subset (List.mem_cons_self ..)
        rcases List.mem_cons.mp h1 with e | h1
        · exact e
        · rcases List.mem_cons.mp h2 with e | h2
          · exact e.symm
          · exact leS_anti ((List.pairwise_cons.mp hl).1 y h2) ((List.pairwise_cons.mp hm).1 x h1)
      subst hx
      rw [pw_uniq (List.pairwise_cons.mp hl).2 (List.pairwise_cons.mp hm).2 (List.Perm.cons_inv h)]
theorem sorted_uniq {l m k : List Str} (hl : sortedS l = true) (hm : sortedS m = true) (p : l.Perm k) (q : m.Perm k) : l = m := pw_uniq (sorted_pw hl) (sorted_pw hm) (p.trans q.symm)
end FsU

set_option Elab.async false
set_option linter.all false
set_option maxRecDepth 100000
set_option maxHeartbeats 2000000
/-! o[i] and len(o) by an own class's __getitem__ and __len__; d.update(e); a statement that is never met. -/
namespace FsR
open PySem PySem.Spec PyProof.Rows L2
theorem run_atS {X : Cx} {CX : CXT} {k : Nat} {f : Addr} {fd : FuncData} {ps : List Str} {sp : Sp} {E : L2.St → XK} {pins : List (Addr × Obj)} {σ : L2.St} {H : Hp} {s : Shared} {Q : VK} {us : List Value} {vs : List V} {A : Around} (F : FnOk X.prog X.w X.K X.mg X.base CX k f fd ps sp) (hr : Room k A)
    (he : Env0 X.prog X.w X.K X.mg X.base A X.stack s H) (hb : Binds X.K fd ps []) (hx : PassesAt CX X σ (E σ))
    (I : Inv X pins σ H s) (r : Vals vs us) (h : sp vs H Q (E σ)) : wpAny (model X.prog X.w) A (call (.ref f) us) (EP X pins σ Q) X.xe s := by
  have hl : us.length = ps.length := by rw [← r.length]; exact F.len _ _ _ _ h
  have b := hb s us I.kIn (by rw [List.append_nil]; exact hl)
  rw [List.append_nil] at b
  refine wpAny_call (codeAny_mono (F.run A X.stack s H ⟨us, []⟩ us vs Q (E σ) hr he b r h) fun r s' hq => ?_)
  cases r with
  | error e => exact hx pins H s e s' I hq
  | ok fl =>
    cases fl with
    | ret u => exact I.after hq
    | next => exact False.elim hq
    | brk => exact False.elim hq
    | cont => exact False.elim hq
structure IxM (K : PySem.W.Frag) (C : Addr) (g : Addr) : Prop where
  at_ : PySem.W.findIn K (.ref C) "__getitem__" = some (some (.ref g))
  fn : PySem.W.isFn K (.ref g) = true
  fi : PySem.W.fnIn K g = true
/-- o[i] -/
def tIxO (C : Addr) (sp : Sp) (E : L2.St → XK) (ta tb : TE) : TE := fun σ H Q => ta σ H fun x H1 => tb σ H1 fun y H2 => ∃ (a dx : Addr) (fs : List (Str × V)), x = .ref a ∧ H2 a = some (.ins C dx fs) ∧ sp [.ref a, y] H2 Q (E σ)
theorem pe_ixO {X : Cx} {CX : CXT} {k : Nat} {C g : Addr} {fd : FuncData} {ps : List Str} {sp : Sp} {E : L2.St → XK} {ea eb : Expr} {pos : Pos} {ta tb : TE} (ha : PE X ea ta) (hb : PE X eb tb) (M : IxM X.K C g) (F : FnOk X.prog X.w X.K X.mg X.base CX k g fd ps sp) (hr : Room (k + 1) X.A) (hd : Binds X.K fd ps [])
    (hx : ∀ σ, PassesAt CX X σ (E σ)) (hsl : ∀ v i, subscripted eb true v i = runValue (.builtin "lifetime.subscript" ⟨[v, i], []⟩) := by intro _ _; with_unfolding_all rfl) : PE X (.Subscript ea eb pos) (tIxO C sp E ta tb) := by
  refine ⟨fun pins s σ H Q I h => ?_⟩
  refine Subscript_ (binT ha hb I h fun v u s2 x y H2 I2 rx ry q => ?_)
  obtain ⟨a, dx, fs, rfl, h1, q⟩ := q
  obtain rfl : v = Value.ref a := rx
  obtain ⟨_, O1, _, _, _, _⟩ := ins_get I2.hok h1
  obtain ⟨_, i1, _⟩ := O1.look
  obtain ⟨m, fr⟩ := I2.fr
  refine PySem.W.sub_K fr I2.ok.mod.kin i1 M.at_ M.fi M.fn ?_ (hsl _ _)
  exact run_atS (us := [.ref a, u]) (vs := [.ref a, y]) F hr.in1 I2.env0.in1 hd (hx σ) I2 (.cons rfl (.cons ry .nil)) q
structure LenM (K : PySem.W.Frag) (C : Addr) (g : Addr) : Prop where
  at_ : PySem.W.findIn K (.ref C) "__len__" = some (some (.ref g))
  fn : PySem.W.isFn K (.ref g) = true
/-- len(o) -/
def rLenO (C : Addr) (sp : Sp) (E : XK) : List V → Hp → VK → Prop := fun xs H Q => ∃ (a dx : Addr) (fs : List (Str × V)), xs = [.ref a] ∧ H a = some (.ins C dx fs) ∧ sp [.ref a] H (fun v H' => ∃ n : Nat, v = .int (n : Int) ∧ (n : Int) < 2 ^ 63 ∧ Q (.int (n : Int)) H') E
theorem call_lenO {X : Cx} {CX : CXT} {k : Nat} {C g : Addr} {fd : FuncData} {ps : List Str} {sp : Sp} {E : XK} (M : LenM X.K C g) (F : FnOk X.prog X.w X.K X.mg X.base CX k g fd ps sp) (hr : Room (k + 1) X.A) (hd : Binds X.K fd ps [])
    (hx : ∀ σ, PassesAt CX X σ E) : CallR X (.builtin "len") (rLenO C sp E) := by
  intro pins s σ H xs us Q I r h
  obtain ⟨a, dx, fs, rfl, h1, q⟩ := h
  obtain ⟨u, rfl, ru⟩ := vals1 r
  obtain rfl : u = Value.ref a := ru
  obtain ⟨_, O1, _, _, _, _⟩ := ins_get I.hok h1
  obtain ⟨_, i1, _⟩ := O1.look
  obtain ⟨m, fr⟩ := I.fr
  refine PySem.W.len_K fr I.ok.mod.kin i1 M.at_ M.fn (wpAny_mono (run_atS (E := fun _ => E) (us := [.ref a]) (vs := [.ref a]) F hr.in1 I.env0.in1 hd (hx σ) I (.cons rfl .nil) q) (fun w s' z => ?_) fun _ _ x => x)
  obtain ⟨v, H', J, rv, n, ev, hn, q'⟩ := z
  subst ev
  obtain ⟨t, rfl⟩ := rv
  exact ⟨⟨by omega, hn⟩, .int (n : Int), H', J.tok _, ⟨_, rfl⟩, q'⟩
/-- d.update(e) -/
def rUpd : V → List V → Hp → VK → Prop := fun x vs H Q => ∃ (d o : Addr) (kvs more : List (Key × V)), x = .ref d ∧ vs = [.ref o] ∧ d ≠ o ∧ H d = some (.dK kvs) ∧ H o = some (.dK more) ∧ kvs.length + more.length ≤ 100000 ∧ Q .non (upd H d (.dK (mergeK kvs more)))
theorem mt_update {X : Cx} : MtR X "dict.update" rUpd := by
  intro pins s σ H x xs v us Q I rx rv h
  obtain ⟨d, o, kvs, more, rfl, rfl, hne, hd, ho, hz, q⟩ := h
  obtain rfl : v = Value.ref d := rx
  obtain ⟨u, rfl, ru⟩ := vals1 rv
  obtain rfl : u = Value.ref o := ru
  obtain ⟨z1, y1, v1, r1, d1⟩ := dk_of I.hok hd
  obtain ⟨z2, y2, v2, r2, d2⟩ := dk_of I.hok ho
  have hl : v1.length + v2.length ≤ sizeLine := by
    rw [← r1.length, ← r2.length, sizeLine_eq]
    omega
  refine call_meetsIn PySem.F.slot_dict_update d1.typeIs PySem.F.entry_dict_update (PySem.F.args_dict_update_2 _ _) (meets_dict_update (mixKind X.prog X.w) d o hne y2)
    ⟨v1, v2, d1, d2, hl, fun h' dd' _ hs => ?_⟩
  have he : ∃ q, h'.get? d = some q := let ⟨q, _, _, hq, _⟩ := dd'; ⟨q, hq⟩
  refine ⟨.non, _, d_write I (by rw [hd]; exact True.intro) hs he (dk_new ?_ y1 (r2.merge r1) dd'), rfl, q⟩
  have := length_mergeK more kvs
  rw [sizeLine_eq]
  omega
end FsR

set_option Elab.async false
set_option linter.all false
set_option maxRecDepth 100000
set_option maxHeartbeats 2000000
/-! What is made of a list or a tuple; tuples put together. -/
namespace FsA
open PySem L2 Evl FsE FsC FsR Fs
def SqA (K : PySem.W.Frag) (H : Hp) (l : Addr) (xs : List V) : Prop := SqL K H l xs ∨ H l = some (.tup xs)
theorem SqA.ex {K : PySem.W.Frag} {H H' : Hp} (e : Ex H H') {l : Addr} {xs : List V} (h : SqA K H l xs) : SqA K H' l xs := h.elim (fun z => .inl (ex_l e z)) fun z => .inr (e _ _ z)
/-- a list or tuple -/
def EvSeq (K : PySem.W.Frag) (te : TE) (σ : L2.St) (H : Hp) (xs : List V) : Prop := ∀ H1, Ex H H1 → ∀ Q : VK, (∀ p H2, Ex H1 H2 → SqA K H2 p xs → Q (.ref p) H2) → te σ H1 Q
/-- a tuple -/
def EvQ (te : TE) (σ : L2.St) (H : Hp) (xs : List V) : Prop := ∀ H1, Ex H H1 → ∀ Q : VK, (∀ p H2, Ex H1 H2 → H2 p = some (.tup xs) → Q (.ref p) H2) → te σ H1 Q
section
variable {σ : L2.St} {H : Hp} {te ta tb : TE} {K : PySem.W.Frag} {C : Addr} {xs ys : List V}
theorem eq_l (h : EvL te σ H xs) : EvSeq K te σ H xs := fun H1 e Q q => h H1 e _ fun p H2 _ e2 h2 => q p H2 e2 (.inl (sq_of h2))
theorem eq_v {p : Addr} (h : Ev te σ H (.ref p)) (hp : SqA K H p xs) : EvSeq K te σ H xs := fun H1 e Q q => h H1 e _ fun H2 e2 => q p H2 e2 (hp.ex (e.trans e2))
theorem eq_q (h : EvQ te σ H xs) : EvSeq K te σ H xs := fun H1 e Q q => h H1 e _ fun p H2 e2 h2 => q p H2 e2 (.inr h2)
theorem s_fldQ {tv ta : TE} {a dx : Addr} {fs : List (Str × V)} {f : Str} {D : Ends} (hv : EvQ tv σ H xs) (ho : ∀ H1, Ex H H1 → Ev ta σ H1 (.ref a)) (hi : H a = some (.ins C dx fs)) (cl : Cls K C) (n : NoAttr K C f) (hl : fs.length < 1000)
    (k : ∀ t H1, t ≠ a → Ex H H1 → H1 t = some (.tup xs) → D.nx σ (upd H1 a (.ins C dx (putF f (.ref t) fs)))) : sFld K ta tv f D σ H :=
  hv H (Ex.refl H) _ fun t H1 e1 h1 => ho H1 e1 H1 (Ex.refl H1) _ fun H2 e2 => ⟨a, C, dx, fs, rfl, (e1.trans e2) _ _ hi, cl, n, hl, k t H2 (fun z => by
    subst z
    rw [e1 _ _ hi] at h1
    cases h1) (e1.trans e2) (e2 _ _ h1)⟩
/-- tuple(xs), xs a list or tuple -/
theorem eq_tup {l : Addr} (h : Ev te σ H (.ref l)) (hl : SqA K H l xs) : EvQ (tCB (fun xs H Q => ∃ p ys, xs = [V.ref p] ∧ ((SqL K H p ys ∧ ∀ l, H l = none → Q (.ref l) (upd H l (.tup ys))) ∨ (SqT K H p ys ∧ Q (.ref p) H))) (tCons te tNil)) σ H xs := fun H1 e Q q =>
  h H1 e _ fun H2 e2 => ⟨l, xs, rfl, by
    rcases hl with hl | hl
    · exact .inl ⟨ex_l (e.trans e2) hl, fun p hp => q p _ (e2.trans (Ex.new hp)) upd_same⟩
    · exact .inr ⟨st_of ((e.trans e2) _ _ hl), q l H2 e2 ((e.trans e2) _ _ hl)⟩⟩
theorem eq_cat (ha : EvQ ta σ H xs) (hb : EvQ tb σ H ys) (hz : xs.length + ys.length ≤ 100000) : EvQ (tOp (rCatA K) ta tb) σ H (xs ++ ys) := fun H1 e Q q =>
  ha H1 e _ fun p H2 e2 h2 => hb H2 (e.trans e2) _ fun r H3 e3 h3 => by
    have k2 := e3 _ _ h2
    refine ⟨p, r, xs, ys, rfl, rfl, st_of k2, st_of h3, sz_of (by omega), fun z => ?_, fun _ z => ?_, fun _ _ u hu => ?_⟩
    · subst z
      exact q r H3 (e2.trans e3) h3
    · subst z
      exact q p H3 (e2.trans e3) (by rw [List.append_nil]; exact k2)
    · exact q u _ ((e2.trans e3).trans (Ex.new hu)) upd_same
theorem eq_u (h : EvU te σ H xs) : EvQ te σ H xs := fun H1 e Q q => h H1 e _ fun p H2 _ e2 h2 => q p H2 e2 h2
end
end FsA

set_option Elab.async false
set_option linter.all false
set_option maxRecDepth 100000
set_option maxHeartbeats 4000000
/-! an error that tells a name -/
namespace Fs
open PySem PySem.Spec PyProof.Rows L2 FsBname
theorem raises_nm {P : Program} {w : World} {K : PySem.W.Frag} {mg : Str → Option Value} {base : Heap} {x : Str} {C fI : Addr} {k : Nat} (hdb : (x == ("__debug__" : Str)) = false) (T : FsBname.ErrTxt P K mg x C fI) : RaisesX P w K mg base x C "name" k := by
  intro X eP ew eK em eb hr a ta p pos ha hg he hpl pins s σ H Q I h
  subst eP ew eK em eb
  refine wpAny_Call_Name_kw (ld_glob I hg T.gC ?_ hdb)
  refine PySem.W.callWith_K (h₀ := X.base) I.ok.mod.kin T.kC (thn (ha.run pos pins s σ H _ I h) fun us s1 ⟨vs, H1, I1, r1, z, ev, hz, q1⟩ => ?_) he hpl
  subst ev
  refine ⟨I1.kIn, ?_⟩
  cases r1 with
  | cons rv rn =>
    cases rn
    obtain ⟨tk, rfl⟩ := rv
    show wpAny _ _ (call (.ref C) [.str z tk]) _ _ _
    have lim := I1.nolimit
    obtain ⟨mb, b1, b2⟩ := I1.ok.mod.blt
    have gl : s1.heap.Ns mainGlobals X.mg := I1.ok.mod.glob.keeps I1.bk
    have bl : ∃ mb, s1.heap.Ns builtinsNs mb ∧ mb "super" = some (.type "super") := ⟨mb, b1.keeps I1.bk, (b2 _ (by decide)).trans Boot.«super»⟩
    obtain ⟨g0, gs, dr, t, os⟩ := s1
    refine wpAny_call (FsBname.bt_made T I1.kIn gl bl lim (by have := hr.dp; omega) fun h' t' e d M => ?_)
    show MkP X pins σ Q (.ref e) ⟨h', gs, dr, t', os⟩
    obtain ⟨t1, ho⟩ := M.obj
    obtain ⟨G', ge1, ge2⟩ := restrict h' fun b => decide (b ≠ e)
    have same : ∀ b, b ≠ e → G'.get? b = h'.get? b := fun b hb => ge1 b (decide_eq_true hb)
    have gone : G'.get? e = none := ge2 e (by simp)
    have old : ∀ b o, g0.get? b = some o → G'.get? b = some o := fun b o q => (same b (Nat.ne_of_lt (Nat.lt_of_lt_of_le (Heap.lt_size q) M.big))).trans (M.keep b o q)
    have ob : ObjOk X.prog X.w (upd H1 d (.xd [(("name" : Str), V.str z)])) G' d (.xd [(("name" : Str), V.str z)]) := ⟨_, M.ns.at (fun o q => (same d M.dne).trans q), fun f => FsBname.relO_one (v := V.str z) ⟨tk, rfl⟩ f⟩
    have J : Inv X pins σ (upd H1 d (.xd [(("name" : Str), V.str z)])) ⟨G', gs, dr, t', os⟩ := I1.laid (t' := t') old M.dbig ob
    refine ⟨e, _, _, ⟨G', gs, dr, t', os⟩, _, .ref C, some d, rfl, J, fun b o q => ?_, gone, ho, ⟨rfl, rfl⟩, rfl, rfl, ?_, rfl, I1.bare, raises_own T.exC T.tyC, q1 d (I1.hok.fresh M.dbig)⟩
    · by_cases hb : b = e
      · have q' : G'.get? b = some o := q
        rw [hb, gone] at q'
        cases q'
      · exact (same b hb).symm.trans q
    · rw [upd_ne (Ne.symm M.dne)]
      exact I1.hok.fresh M.big
end Fs
/-! books -/
namespace Fs
open PySem L2 Evl FsE FsC FsR FsA FsD FsU
/-- all but what stands at a stays -/
def ExB (a : Addr) (H H' : Hp) : Prop := ∀ c o, c ≠ a → H c = some o → H' c = some o
theorem ExB.of {a : Addr} {H H' : Hp} (e : Ex H H') : ExB a H H' := fun _ _ _ h => e _ _ h
theorem ExB.trans {a : Addr} {H H1 H2 : Hp} (e : ExB a H H1) (e' : ExB a H1 H2) : ExB a H H2 := fun c o hc h => e' c o hc (e c o hc h)
theorem ExB.upd {a : Addr} {H : Hp} {o : HO} : ExB a H (upd H a o) := fun c o' hc h => by rw [upd_ne hc]; exact h
/-- what is raised: the field f of CN -/
def BadF (CN : Addr) (f z : Str) (H : Hp) (E : XK) : Prop := ∀ (d : Addr) (H' : Hp), Ex H H' → H d = none → H' d = some (.xd [(f, .str z)]) → E (.ref CN) (some d) H'
theorem BadF.ex {CN : Addr} {f z : Str} {H H' : Hp} {E : XK} (e : Ex H H') (h : BadF CN f z H E) : BadF CN f z H' E := fun d H2 e2 hd h2 => h d H2 (e.trans e2) (fresh_back e hd) h2
def BkAt (CK : Addr) (H : Hp) (a : Addr) (kvs : List (Key × V)) : Prop := ∃ dx d, H a = some (.ins CK dx [("by_name", .ref d)]) ∧ H d = some (.dK kvs)
theorem BkAt.ex {CK : Addr} {H H' : Hp} (e : Ex H H') {a : Addr} {kvs : List (Key × V)} (h : BkAt CK H a kvs) : BkAt CK H' a kvs := by
  obtain ⟨dx, d, h1, h2⟩ := h
  exact ⟨dx, d, e _ _ h1, e _ _ h2⟩
theorem bk_lookup {d : Addr} : List.lookup ("by_name" : Str) [("by_name", V.ref d)] = some (.ref d) := by
  rw [List.lookup_cons, show (("by_name" : Str) == "by_name") = true from by decide +kernel]
theorem bk_put {d d' : Addr} : putF ("by_name" : Str) (.ref d') [(("by_name" : Str), V.ref d)] = [(("by_name" : Str), V.ref d')] := by
  show (if ("by_name" : Str) = "by_name" then (("by_name" : Str), V.ref d') :: [] else _) = _
  rw [if_pos rfl]
/-- a definition -/
def DfAt (CD : Addr) (H : Hp) (a : Addr) (ns : List Str) (b : Addr) : Prop := ∃ dx t, H a = some (.ins CD dx [("params", .ref t), ("body", .ref b)]) ∧ H t = some (.tup (ns.map V.str))
theorem DfAt.ex {CD : Addr} {H H' : Hp} (e : Ex H H') {a b : Addr} {ns : List Str} (h : DfAt CD H a ns b) : DfAt CD H' a ns b := by
  obtain ⟨dx, t, h1, h2⟩ := h
  exact ⟨dx, t, e _ _ h1, e _ _ h2⟩
theorem df_params {t b : Addr} : List.lookup ("params" : Str) [("params", V.ref t), ("body", .ref b)] = some (.ref t) := by
  rw [List.lookup_cons, show (("params" : Str) == "params") = true from by decide +kernel]
theorem df_body {t b : Addr} : List.lookup ("body" : Str) [("params", V.ref t), ("body", .ref b)] = some (.ref b) := by
  rw [List.lookup_cons, show (("body" : Str) == "params") = false from by decide +kernel, List.lookup_cons, show (("body" : Str) == "body") = true from by decide +kernel]
/-- what the text has told of books -/
structure BkT (K : PySem.W.Frag) (mg : Str → Option Value) (CK CB : Addr) : Prop where
  cl : Cls K CK
  nB : NoAttr K CK "by_name"
  mgK : mg "Book" = some (.ref CK)
  dict : mg "dict" = none
  len : mg "len" = none
  sorted : mg "sorted" = none
  most : GC mg "MOST_DEFINITIONS" (.int 12)
structure DfT (K : PySem.W.Frag) (mg : Str → Option Value) (CD : Addr) : Prop where
  cl : Cls K CD
  nP : NoAttr K CD "params"
  nB : NoAttr K CD "body"
  mgD : mg "Definition" = some (.ref CD)
  len : mg "len" = none
  tuple : mg "tuple" = none
  most : GC mg "MOST_PARAMS" (.int 4)
section
variable {σ : L2.St} {H : Hp} {te ta tb tv : TE} {K : PySem.W.Frag} {D : Ends} {tz : TS} {a : Addr} {kvs : List (Key × V)} {key : Key}
theorem ev_lenD {d : Addr} (h : Ev ta σ H (.ref d)) (hd : H d = some (.dK kvs)) : Ev (tCB (fun xs H Q => ∃ a kvs, xs = [V.ref a] ∧ H a = some (.dK kvs) ∧ Q (.int kvs.length) H) (tCons ta tNil)) σ H (.int (kvs.length : Int)) := fun H1 e Q q =>
  h H1 e _ fun H2 e2 => ⟨d, kvs, rfl, (e.trans e2) _ _ hd, q H2 e2⟩
theorem ev_din {d : Addr} (hk : Ev tb σ H (kV key)) (h : Ev ta σ H (.ref d)) (hd : H d = some (.dK kvs)) : Ev (tDIn tb ta) σ H (.bl (valV kvs key).isSome) := fun H1 e Q q =>
  hk H1 e _ fun H2 e2 => h H2 (e.trans e2) _ fun H3 e3 => ⟨d, _, rfl, DGet.k (((e.trans e2).trans e3) _ _ hd), q H3 (e2.trans e3)⟩
theorem et_dni {d : Addr} (hk : Ev tb σ H (kV key)) (h : Ev ta σ H (.ref d)) (hd : H d = some (.dK kvs)) : EvT (tB (tDNotIn tb ta)) σ H (!(valV kvs key).isSome) := fun H1 e Q q =>
  hk H1 e _ fun H2 e2 => h H2 (e.trans e2) _ fun H3 e3 => ⟨d, _, rfl, DGet.k (((e.trans e2).trans e3) _ _ hd), _, rfl, q H3 (e2.trans e3)⟩
theorem ev_dget {d : Addr} {v : V} (h : Ev ta σ H (.ref d)) (hk : Ev tb σ H (kV key)) (hd : H d = some (.dK kvs)) (hv : valV kvs key = some v) : Ev (tDGet ta tb) σ H v := fun H1 e Q q =>
  h H1 e _ fun H2 e2 => hk H2 (e.trans e2) _ fun H3 e3 => ⟨d, v, rfl, by
    have g := DGet.k (k := key) (((e.trans e2).trans e3) _ _ hd)
    rw [hv] at g
    exact g, q H3 (e2.trans e3)⟩
theorem s_fldD {C dx : Addr} {fs : List (Str × V)} {f : Str} (hv : EvD tv σ H kvs) (ho : ∀ H1, Ex H H1 → Ev ta σ H1 (.ref a)) (hi : H a = some (.ins C dx fs)) (cl : Cls K C) (n : NoAttr K C f) (hl : fs.length < 1000)
    (k : ∀ t H1, t ≠ a → Ex H H1 → H1 t = some (.dK kvs) → D.nx σ (upd H1 a (.ins C dx (putF f (.ref t) fs)))) : sFld K ta tv f D σ H :=
  hv H (Ex.refl H) _ fun t H1 ht e1 h1 => ho H1 e1 H1 (Ex.refl H1) _ fun H2 e2 => ⟨a, C, dx, fs, rfl, (e1.trans e2) _ _ hi, cl, n, hl, k t H2 (Ne.symm (ne_of_none hi ht)) (e1.trans e2) (e2 _ _ h1)⟩
/-- dict(()), dict(d) -/
theorem ed_dict {g : Addr} (h : Ev ta σ H (.ref g)) (hg : (Tup0 K g ∧ kvs = []) ∨ H g = some (.dK kvs)) : EvD (tCB (rDictA K) (tCons ta tNil)) σ H kvs := fun H1 e Q q =>
  h H1 e _ fun H2 e2 => by
    rcases hg with ⟨hg, rfl⟩ | hg
    · exact .inl ⟨g, rfl, hg, fun p hp => q p _ (fresh_back e2 hp) (e2.trans (Ex.new hp)) upd_same⟩
    · exact .inr ⟨g, kvs, rfl, .inl ((e.trans e2) _ _ hg), fun p hp => q p _ (fresh_back e2 hp) (e2.trans (Ex.new hp)) upd_same⟩
end
section
variable {P : Program} {w : World} {K : PySem.W.Frag} {mg : Str → Option Value} {base : Heap} {C CB CK CN CD : Addr}
theorem s_fldCall {σ : L2.St} {H : Hp} {D : Ends} {sp : Sp} {E : L2.St → XK} {t1 ta : TE} {f : Str} (h : t1 σ H fun x H1 => sp [x] H1 (fun v H2 => ta σ H2 fun o H3 => ∃ (a C dx : Addr) (fs : List (Str × V)), o = .ref a ∧ H3 a = some (.ins C dx fs) ∧ Cls K C ∧ NoAttr K C f ∧ fs.length < 1000 ∧ D.nx σ (upd H3 a (.ins C dx (putF f v fs)))) (E σ)) : sFld K ta (tCallS sp E (tCons t1 tNil)) f D σ H := h
/-- limited -/
def spLim (CB : Addr) : Sp := fun vs H Q E => ∃ (d : Addr) (kvs : List (Key × V)), vs = [.ref d] ∧ H d = some (.dK kvs) ∧ (kvs.length ≤ 12 → RetV (.ref d) H Q) ∧ (12 < kvs.length → Bad CB "definitions" H E)
theorem scLim : FnScope ["by_name"] ["by_name"] (defScope (topS 24)) := ⟨rfl, rfl, rfl, by decide +kernel, rfl, by decide +kernel, by decide +kernel⟩
theorem ok_lim {f : Addr} {fd : FuncData} {k : Nat} (F : Fun K "limited" "limited" (topS 24) f fd) (T : BkT K mg CK CB) (R : RaisesX P w K mg base "BadTerm" CB "field" k) : FnOk P w K mg base (L2.CX P w) (k + 1) f fd ["by_name"] (spLim CB) := by
  refine F.okX scLim (fun vs H Q E h => ?_) (fun cdv A outer s H vs Q E hr h => ?_)
  · obtain ⟨d, kvs, rfl, _⟩ := h
    rfl
  · obtain ⟨d, kvs, rfl, hd, q1, q2⟩ := h
    refine ⟨_, pss_cons (ps_if (pt_cmpR op_gt (pe_callB call_lenD (by rfl) T.len PySem.boot_len (pa_cons (pv 0) pa_nil)) (C8.pe_gc (by rfl) T.most) (nomark _))
        (pss_one (ps_raise (W := fun cls d _ H => E cls d H) rfl (takes_of rfl rfl rfl rfl) (R _ rfl rfl rfl rfl rfl hr _ _ _ _ (pa_cons pe_str pa_nil) (by rfl) (by rfl) (by rfl)))) pss_nil)
      (pss_one (ps_ret (pv 0))), ?_⟩
    refine q_when (b := decide ((12 : Int) < (kvs.length : Int))) (et_test (ev_op (ev_lenD (ev_var rfl) hd) ev_c rv_I0)) (fun hb H1 e1 => ?_) (fun hb H1 e1 => ?_)
    · have hz := of_decide_eq_true hb
      refine ⟨"definitions", rfl, by decide +kernel, fun d' hd' => ?_⟩
      exact q2 (by omega) d' _ (e1.trans (Ex.new hd')) (fresh_back e1 hd') upd_same
    · have hz := of_decide_eq_false hb
      exact s_ret (ev_var rfl) (fun H2 e2 => q1 (by omega) H2 (e1.trans e2))
/-- Book(..) -/
def spBkInit (K : PySem.W.Frag) (CK : Addr) : Sp := fun vs H Q _ => ∃ (a dx g : Addr) (kvs : List (Key × V)) (H0 : Hp), vs = [.ref a, .ref g] ∧ H a = some (.ins CK dx []) ∧ H0 a = none ∧ Ex H0 H ∧ ((Tup0 K g ∧ kvs = []) ∨ H0 g = some (.dK kvs)) ∧ ∀ H', Ex H0 H' → BkAt CK H' a kvs → Q .non H'
theorem scBkInit : FnScope ["self", "given"] ["self", "given"] (defScope (inClass (topS 23) 0)) := ⟨rfl, rfl, rfl, by decide +kernel, rfl, by decide +kernel, by decide +kernel⟩
theorem ok_bkinit {f : Addr} {fd : FuncData} {t0 : Addr} (F : FunD K "__init__" "Book.__init__" (defArgs (inClass (topS 23) 0)) (defBody (inClass (topS 23) 0)) (defScope (inClass (topS 23) 0)) [.ref t0] [] f fd) (T : BkT K mg CK CB) : FnOk P w K mg base CX0 1 f fd ["self", "given"] (spBkInit K CK) := by
  refine F.ok scBkInit (fun vs H Q E h => ?_) (fun cdv A outer s H vs Q E hr h => ?_)
  · obtain ⟨a, dx, g, kvs, H0, rfl, _⟩ := h
    rfl
  · obtain ⟨a, dx, g, kvs, H0, rfl, ha, hna, e0, hg, q⟩ := h
    refine ⟨_, pss_one (ps_fld (pv 0) (pe_callTy (call_dictA rfl) (by rfl) T.dict (by decide +kernel) (pa_cons (pv 1) pa_nil)) rfl), ?_⟩
    refine s_fldD (kvs := kvs) (ed_dict (ev_var rfl) (hg.imp id fun z => e0 _ _ z)) (fun H1 e1 => ev_var rfl) ha T.cl T.nB (by show 0 < 1000; decide) (fun t H1 ht e1 h1 => ?_)
    exact q _ (Ex.mut (e0.trans e1) hna) ⟨dx, t, upd_same, by rw [upd_ne ht]; exact h1⟩
theorem binds_bk {f t0 : Addr} {fd : FuncData} (F : FunD K "__init__" "Book.__init__" (defArgs (inClass (topS 23) 0)) (defBody (inClass (topS 23) 0)) (defScope (inClass (topS 23) 0)) [.ref t0] [] f fd) : Binds K fd ["self", "given"] [.ref t0] := by
  obtain ⟨ds, vd, bd⟩ := F.binds1 (ps := ["self", "given"]) 1 0 (by simp) rfl (fun T kV doc pm an cdv ct us its h1 h2 => match us, its, h1, h2 with | [_], [_], _, _ => ⟨_, rfl, rfl⟩)
  cases vd with
  | cons r rs =>
    cases rs
    cases r
    exact bd
/-- book[z] = v -/
def spBkSet (CK CB : Addr) : Sp := fun vs H Q E => ∃ (a : Addr) (z : Str) (v : V) (kvs : List (Key × V)), vs = [.ref a, .str z, v] ∧ BkAt CK H a kvs ∧ (kvs.map (·.1)).Nodup ∧ kvs.length ≤ 1000 ∧ z.length ≤ 40000 ∧
  (nameS z = true → (putK kvs (.inr z) v).length ≤ 12 → ∀ H', ExB a H H' → BkAt CK H' a (putK kvs (.inr z) v) → Q .non H') ∧ (nameS z = true → 12 < (putK kvs (.inr z) v).length → Bad CB "definitions" H E) ∧ (nameS z = false → Bad CB "name" H E)
theorem scBkSet : FnScope ["self", "at", "worth"] ["self", "at", "worth"] (defScope (inClass (topS 23) 1)) := ⟨rfl, rfl, rfl, by decide +kernel, rfl, by decide +kernel, by decide +kernel⟩
theorem ok_bkset {f : Addr} {fd : FuncData} {k : Nat} (hk : 1 ≤ k) (F : Fun K "__setitem__" "Book.__setitem__" (inClass (topS 23) 1) f fd) (T : BkT K mg CK CB) (GN : CalX P w K mg base CX0 1 "is_name" (spPred nameV)) (GM : CalX P w K mg base (L2.CX P w) k "limited" (spLim CB)) (R : RaisesX P w K mg base "BadTerm" CB "field" k) :
    FnOk P w K mg base (L2.CX P w) (k + 1) f fd ["self", "at", "worth"] (spBkSet CK CB) := by
  refine F.okX scBkSet (fun vs H Q E h => ?_) (fun cdv A outer s H vs Q E hr h => ?_)
  · obtain ⟨a, z, v, kvs, rfl, _⟩ := h
    rfl
  · obtain ⟨a, z, v, kvs, rfl, ⟨dx, d, h1, h2⟩, nd, hl, hz, q1, q2, q3⟩ := h
    refine ⟨_, pss_cons (ps_if (pt_not (pt_val (pe_cx (E := fun _ => E0) GN hr (by omega) (by rfl) at0 (pa_cons (pv 1) pa_nil))))
        (pss_one (ps_raise (W := fun cls d _ H => E cls d H) rfl (takes_of rfl rfl rfl rfl) (R _ rfl rfl rfl rfl rfl hr _ _ _ _ (pa_cons pe_str pa_nil) (by rfl) (by rfl) (by rfl)))) pss_nil)
      (pss_one (ps_fld (pv 0) (pe_cx (E := WE (fun cls d _ H => E cls d H)) GM hr (Nat.le_refl _) (by rfl) (fun σ => passAt (takes_of rfl rfl rfl rfl) σ) (pa_cons (pe_star1 (pe_fld (pv 0) rfl) (pv 1) (pv 2)) pa_nil)) rfl)), ?_⟩
    refine q_when (b := !nameS z) (et_not (et_B (ev_cx (ea_cons (ev_var rfl) ea_nil) (sp_pred (f := nameV) (v := .str z) hz)))) (fun hb H1 e1 => ?_) (fun hb H1 e1 => ?_)
    · have hn : nameS z = false := by simpa using hb
      refine ⟨"name", rfl, by decide +kernel, fun d' hd' => ?_⟩
      exact q3 hn d' _ (e1.trans (Ex.new hd')) (fresh_back e1 hd') upd_same
    · have hn : nameS z = true := by simpa using hb
      have key := ed_star1 (ta := tFld K (tVar 0) "by_name") (tk := tVar 1) (tv := tVar 2) (σ := L2.start ["self", "at", "worth"] [.ref a, .str z, v]) (H := H1) (key := .inr z) (v := v) (kvs := kvs) (ev_fld (ev_var rfl) (e1 _ _ h1) T.cl T.nB bk_lookup) (e1 _ _ h2) nd (by omega) (ev_var rfl) (ev_var rfl)
      refine s_fldCall (key H1 (Ex.refl H1) _ (fun p H2 hp e2 h2' => ?_))
      refine ⟨p, _, rfl, h2', fun hz6 H3 e3 => ?_, fun hz6 => (q2 hn hz6).ex (e1.trans e2)⟩
      have x3 := (e1.trans e2).trans e3
      refine ⟨_, rfl, a, CK, dx, _, rfl, x3 _ _ h1, T.cl, T.nB, by show 1 < 1000; decide, ?_⟩
      have hpa : p ≠ a := fun z => by
        rw [z, (e1 _ _ h1)] at hp
        cases hp
      refine q1 hn hz6 _ ((ExB.of x3).trans ExB.upd) ⟨dx, p, ?_, by rw [upd_ne hpa]; exact e3 _ _ h2'⟩
      rw [bk_put]
      exact upd_same
/-- book[z] -/
def spBkGet (CK CN : Addr) : Sp := fun vs H Q E => ∃ (a : Addr) (z : Str) (kvs : List (Key × V)), vs = [.ref a, .str z] ∧ BkAt CK H a kvs ∧ z.length ≤ 1000 ∧ (∀ v, valV kvs (.inr z) = some v → RetV v H Q) ∧ (valV kvs (.inr z) = none → BadF CN "name" z H E)
theorem scBkGet : FnScope ["self", "at"] ["self", "at"] (defScope (inClass (topS 23) 2)) := ⟨rfl, rfl, rfl, by decide +kernel, rfl, by decide +kernel, by decide +kernel⟩
theorem ok_bkget {f : Addr} {fd : FuncData} {k : Nat} (F : Fun K "__getitem__" "Book.__getitem__" (inClass (topS 23) 2) f fd) (T : BkT K mg CK CB) (R : RaisesX P w K mg base "NoName" CN "name" k) : FnOk P w K mg base (L2.CX P w) (k + 1) f fd ["self", "at"] (spBkGet CK CN) := by
  refine F.okX scBkGet (fun vs H Q E h => ?_) (fun cdv A outer s H vs Q E hr h => ?_)
  · obtain ⟨a, z, kvs, rfl, _⟩ := h
    rfl
  · obtain ⟨a, z, kvs, rfl, ⟨dx, d, h1, h2⟩, hz, q1, q2⟩ := h
    refine ⟨_, pss_cons (ps_if (pt_cmp (pc_dnotin (hu_of hr) (pv 1) (pe_fld (pv 0) rfl)))
        (pss_one (ps_raise (W := fun cls d _ H => E cls d H) rfl (takes_of rfl rfl rfl rfl) (R _ rfl rfl rfl rfl rfl hr _ _ _ _ (pa_cons (pv 1) pa_nil) (by rfl) (by rfl) (by rfl)))) pss_nil)
      (pss_one (ps_ret (pe_dget (hu_of hr) (pe_fld (pv 0) rfl) (pv 1) (fun _ _ => rfl)))), ?_⟩
    refine q_when (b := !(valV kvs (.inr z)).isSome) (et_dni (key := .inr z) (ev_var rfl) (ev_fld (ev_var rfl) h1 T.cl T.nB bk_lookup) h2) (fun hb H1 e1 => ?_) (fun hb H1 e1 => ?_)
    · have hn : valV kvs (.inr z) = none := by simpa using hb
      refine ⟨_, rfl, z, rfl, hz, fun d' hd' => ?_⟩
      exact q2 hn d' _ (e1.trans (Ex.new hd')) (fresh_back e1 hd') upd_same
    · have hs : (valV kvs (.inr z)).isSome = true := by simpa using hb
      obtain ⟨v, hv⟩ := Option.isSome_iff_exists.mp hs
      exact s_ret (v := v) (ev_dget (key := .inr z) (ev_fld (ev_var rfl) (e1 _ _ h1) T.cl T.nB bk_lookup) (ev_var rfl) (e1 _ _ h2) hv) (fun H2 e2 => q1 v hv H2 (e1.trans e2))
/-- z in book -/
def spBkIn (CK : Addr) : Sp := fun vs H Q _ => ∃ (a : Addr) (z : Str) (kvs : List (Key × V)), vs = [.ref a, .str z] ∧ BkAt CK H a kvs ∧ RetV (.bl (valV kvs (.inr z)).isSome) H Q
theorem scBkIn : FnScope ["self", "x"] ["self", "x"] (defScope (inClass (topS 23) 3)) := ⟨rfl, rfl, rfl, by decide +kernel, rfl, by decide +kernel, by decide +kernel⟩
theorem ok_bkin {f : Addr} {fd : FuncData} (F : Fun K "__contains__" "Book.__contains__" (inClass (topS 23) 3) f fd) (T : BkT K mg CK CB) : FnOk P w K mg base CX0 1 f fd ["self", "x"] (spBkIn CK) := by
  refine F.ok scBkIn (fun vs H Q E h => ?_) (fun cdv A outer s H vs Q E hr h => ?_)
  · obtain ⟨a, z, kvs, rfl, _⟩ := h
    rfl
  · obtain ⟨a, z, kvs, rfl, ⟨dx, d, h1, h2⟩, q⟩ := h
    refine ⟨_, pss_one (ps_ret (pe_cmp (pc_din (hu_of hr) (pv 1) (pe_fld (pv 0) rfl)))), ?_⟩
    exact s_ret (v := .bl (valV kvs (.inr z)).isSome) (ev_din (key := .inr z) (ev_var rfl) (ev_fld (ev_var rfl) h1 T.cl T.nB bk_lookup) h2) q
/-- len(book) -/
def spBkLen (CK : Addr) : Sp := fun vs H Q _ => ∃ (a : Addr) (kvs : List (Key × V)), vs = [.ref a] ∧ BkAt CK H a kvs ∧ RetV (.int kvs.length) H Q
theorem scBkLen : FnScope ["self"] ["self"] (defScope (inClass (topS 23) 4)) := ⟨rfl, rfl, rfl, by decide +kernel, rfl, by decide +kernel, by decide +kernel⟩
theorem ok_bklen {f : Addr} {fd : FuncData} (F : Fun K "__len__" "Book.__len__" (inClass (topS 23) 4) f fd) (T : BkT K mg CK CB) : FnOk P w K mg base CX0 1 f fd ["self"] (spBkLen CK) := by
  refine F.ok scBkLen (fun vs H Q E h => ?_) (fun cdv A outer s H vs Q E hr h => ?_)
  · obtain ⟨a, kvs, rfl, _⟩ := h
    rfl
  · obtain ⟨a, kvs, rfl, ⟨dx, d, h1, h2⟩, q⟩ := h
    refine ⟨_, pss_one (ps_ret (pe_callB call_lenD (by rfl) T.len PySem.boot_len (pa_cons (pe_fld (pv 0) rfl) pa_nil))), ?_⟩
    exact s_ret (v := .int (kvs.length : Int)) (ev_lenD (ev_fld (ev_var rfl) h1 T.cl T.nB bk_lookup) h2) q
/-- book.names() -/
def spBkNames (CK : Addr) : Sp := fun vs H Q _ => ∃ (a : Addr) (kvs : List (Key × V)) (ks : List Str), vs = [.ref a] ∧ BkAt CK H a kvs ∧ kvs.map (·.1) = ks.map Sum.inr ∧ ks.length < 64 ∧ ∀ ys : List Str, ys.Perm ks → PyProof.Rows.sortedS ys = true → RetL (ys.map V.str) H Q
theorem scBkNames : FnScope ["self"] ["self"] (defScope (inClass (topS 23) 7)) := ⟨rfl, rfl, rfl, by decide +kernel, rfl, by decide +kernel, by decide +kernel⟩
theorem ok_bknames {f : Addr} {fd : FuncData} (F : Fun K "names" "Book.names" (inClass (topS 23) 7) f fd) (T : BkT K mg CK CB) : FnOk P w K mg base CX0 1 f fd ["self"] (spBkNames CK) := by
  refine F.ok scBkNames (fun vs H Q E h => ?_) (fun cdv A outer s H vs Q E hr h => ?_)
  · obtain ⟨a, kvs, ks, rfl, _⟩ := h
    rfl
  · obtain ⟨a, kvs, ks, rfl, ⟨dx, d, h1, h2⟩, hks, h64, q⟩ := h
    refine ⟨_, pss_one (ps_ret (pe_callB (call_sortedD rfl) (by rfl) T.sorted (by decide +kernel) (pa_cons (pe_fld (pv 0) rfl) pa_nil))), ?_⟩
    refine ev_fld (ev_var rfl) h1 T.cl T.nB bk_lookup H (Ex.refl H) _ fun H1 e1 => ?_
    exact ⟨d, kvs, ks, rfl, .inl (e1 _ _ h2), hks, h64, fun ys p hp hs hn => q ys hp hs p _ (fresh_back e1 hn) (e1.trans (Ex.new hn)) upd_same⟩
/-- Definition(..), of what is allowed -/
def spDfInit (CD : Addr) : Sp := fun vs H Q _ => ∃ (a dx l b : Addr) (ns : List Str) (H0 : Hp), vs = [.ref a, .ref l, .ref b] ∧ H a = some (.ins CD dx []) ∧ H0 a = none ∧ Ex H0 H ∧ NmsAt H0 l ns ∧ ns.length ≤ 4 ∧ namesS ns = true ∧ (∀ z ∈ ns, z.length ≤ 40000) ∧ ∀ H', Ex H0 H' → DfAt CD H' a ns b → Q .non H'
theorem scDfInit : FnScope ["self", "params", "body"] ["self", "params", "body"] (defScope (inClass (topS 22) 0)) := ⟨rfl, rfl, rfl, by decide +kernel, rfl, by decide +kernel, by decide +kernel⟩
theorem ok_dfinit {f : Addr} {fd : FuncData} (F : Fun K "__init__" "Definition.__init__" (inClass (topS 22) 0) f fd) (T : DfT K mg CD) (GA : CalX P w K mg base CX0 2 "are_names" spNames) : FnOk P w K mg base CX0 3 f fd ["self", "params", "body"] (spDfInit CD) := by
  refine F.ok scDfInit (fun vs H Q E h => ?_) (fun cdv A outer s H vs Q E hr h => ?_)
  · obtain ⟨a, dx, l, b, ns, H0, rfl, _⟩ := h
    rfl
  · obtain ⟨a, dx, l, b, ns, H0, rfl, ha, hna, e0, hl, h4, hn, hz, q⟩ := h
    refine ⟨_, pss_cons (ps_if (PW.pt (pw_or (pt_cmpR op_gt (pe_callB call_len_seq (by rfl) T.len PySem.boot_len (pa_cons (pv 1) pa_nil)) (C8.pe_gc (by rfl) T.most) (nomark _)) (pw_or1 (pt_not (pt_val (pe_cx (E := fun _ => E0) GA hr (by decide) (by rfl) at0 (pa_cons (pv 1) pa_nil))))))) pss_never pss_nil)
      (pss_cons (ps_fld (pv 0) (pe_callTy call_tuple_of (by rfl) T.tuple (by decide +kernel) (pa_cons (pv 1) pa_nil)) rfl)
      (pss_one (ps_fld (pv 0) (pv 2) rfl))), ?_⟩
    have hl0 := hl.ex e0
    have lenE : Ev (tCB (fun xs H Q => ∃ p ys, xs = [V.ref p] ∧ (SqL K H p ys ∨ SqT K H p ys) ∧ Q (.int ys.length) H) (tCons (tVar 1) tNil)) [some (.ref a), some (.ref l), some (.ref b)] H (.int (ns.length : Int)) := fun H1 e1 Q' q' =>
      ⟨_, rfl, l, _, rfl, (hl0.ex e1).sq, by rw [List.length_map]; exact q' H1 (Ex.refl H1)⟩
    refine q_when (b := false) (et_is (et_or (a := false) (b := false) (et_is (et_test (ev_op lenE ev_c rv_I0)) (decide_eq_false (by omega))) (fun _ => et_is (et_not (et_B (ev_cx (z := .bl (namesS ns)) (ea_cons (ev_var rfl) ea_nil) (fun H1 e1 Q' q' E' => ⟨l, ns, rfl, hl0.ex e1, by omega, hz, q'⟩)))) (by rw [hn]; rfl))) rfl) (fun z => nomatch z) (fun _ H1 e1 => ?_)
    have sqa : SqA K H1 l (ns.map V.str) := (hl0.ex e1).elim (fun z => .inl (sq_of z)) .inr
    refine s_fldQ (D := { nx := sFld K (tVar 0) (tVar 2) "body" { nx := fun _ H' => Q .non H', rt := Q }, rt := Q }) (xs := ns.map V.str) (eq_tup (ev_var rfl) sqa) (fun H2 e2 => ev_var rfl) (e1 _ _ ha) T.cl T.nP (by show 0 < 1000; decide) (fun t H2 ht e2 h2 => ?_)
    refine ⟨_, rfl, _, rfl, a, CD, dx, _, rfl, upd_same, T.cl, T.nB, by show 1 < 1000; decide, ?_⟩
    have x2 : Ex H0 (upd H2 a (.ins CD dx (putF "params" (.ref t) []))) := Ex.mut ((e0.trans e1).trans e2) hna
    refine q _ (Ex.mut x2 hna) ⟨dx, t, ?_, by rw [upd_ne ht, upd_ne ht]; exact h2⟩
    rw [upd_same]
    have : putF ("body" : Str) (V.ref b) (putF "params" (.ref t) []) = [(("params" : Str), V.ref t), (("body" : Str), .ref b)] := by
      show (if ("params" : Str) = "body" then _ else (("params" : Str), V.ref t) :: putF ("body" : Str) (V.ref b) []) = _
      rw [if_neg (by decide +kernel)]
      rfl
    rw [this]
end
end Fs

set_option Elab.async false
set_option linter.all false
set_option maxRecDepth 100000
set_option maxHeartbeats 4000000
/-! what instances of some classes and tuples are stays -/
namespace Fs
open PySem L2 Evl FsE FsC FsR
structure ExC (C : Addr) (H H' : Hp) : Prop where
  ins : ∀ a dx fs, H a = some (.ins C dx fs) → H' a = some (.ins C dx fs)
  tup : ∀ a xs, H a = some (.tup xs) → H' a = some (.tup xs)
theorem ExC.of {C : Addr} {H H' : Hp} (e : Ex H H') : ExC C H H' := ⟨fun _ _ _ h => e _ _ h, fun _ _ h => e _ _ h⟩
theorem ExC.trans {C : Addr} {H H1 H2 : Hp} (e : ExC C H H1) (f : ExC C H1 H2) : ExC C H H2 := ⟨fun a dx fs h => f.ins _ _ _ (e.ins _ _ _ h), fun a xs h => f.tup _ _ (e.tup _ _ h)⟩
theorem ExC.updL {C l : Addr} {H : Hp} {xs : List V} {o : HO} (h : H l = some (.lst xs)) : ExC C H (upd H l o) := ⟨fun a dx fs ha => by
    rw [upd_ne (fun z => by rw [z, h] at ha; cases ha)]
    exact ha, fun a ys ha => by
    rw [upd_ne (fun z => by rw [z, h] at ha; cases ha)]
    exact ha⟩
mutual
theorem PrAt.keepC {C : Addr} {H H' : Hp} (e : ExC C H H') : ∀ {p : Pr} {a : Addr}, PrAt C H a p → PrAt C H' a p
  | .choice os, a, h => by
    unfold PrAt at h ⊢
    obtain ⟨t, ps, ⟨dx, h1⟩, h2, h3⟩ := h
    exact ⟨t, ps, ⟨dx, e.ins _ _ _ h1⟩, e.tup _ _ h2, OfsAt.keepC e h3⟩
  | .new n k r, a, h => by
    unfold PrAt at h ⊢
    obtain ⟨t, b, ⟨dx, h1⟩, h2, h3⟩ := h
    exact ⟨t, b, ⟨dx, e.ins _ _ _ h1⟩, e.tup _ _ h2, PrAt.keepC e h3⟩
  | .cond l r y n, a, h => by
    unfold PrAt at h ⊢
    obtain ⟨t, b, c, ⟨dx, h1⟩, h2, h3, h4⟩ := h
    exact ⟨t, b, c, ⟨dx, e.ins _ _ _ h1⟩, e.tup _ _ h2, PrAt.keepC e h3, PrAt.keepC e h4⟩
  | .call n ops, a, h => by
    unfold PrAt at h ⊢
    obtain ⟨t, u, ⟨dx, h1⟩, h2, h3⟩ := h
    exact ⟨t, u, ⟨dx, e.ins _ _ _ h1⟩, e.tup _ _ h2, e.tup _ _ h3⟩
theorem OfsAt.keepC {C : Addr} {H H' : Hp} (e : ExC C H H') : ∀ {os : Ofs} {ps : List V}, OfsAt C H ps os → OfsAt C H' ps os
  | .nil, ps, h => by
    unfold OfsAt at h ⊢
    exact h
  | .cons c s m op ns r os, ps, h => by
    unfold OfsAt at h ⊢
    obtain ⟨o, u, b, qs, h1, h2, h3, h4, h5⟩ := h
    exact ⟨o, u, b, qs, h1, e.tup _ _ h2, e.tup _ _ h3, PrAt.keepC e h4, OfsAt.keepC e h5⟩
end
end Fs

set_option Elab.async false
set_option linter.all false
set_option maxRecDepth 100000
set_option maxHeartbeats 2000000
namespace Fs
open PySem L2 Evl FsE FsC FsR FsT
def Opd.ok : Opd → Prop
  | .int _ => True
  | .nm z => z.length ≤ 40000
theorem Opd.opv {o : Opd} (h : o.ok) : OpV o.v := by
  cases o with
  | int i => exact True.intro
  | nm z => exact h
/-! what is refused -/
def badNew (z : Str) (k : Int) (r : Pr) : Option Str := if nameS z = true then (if seatsV (.int k) = true then badInit (.new z k r) else some "seats") else some "name"
def badWhen (l r : Opd) (y n : Pr) : Option Str := if operandV l.v = true then (if operandV r.v = true then badInit (.cond l r y n) else some "right") else some "left"
def opsOk (ops : List Opd) : Bool := decide (((ops.length : Nat) : Int) ≤ 4) && (ops.map fun o => operandV o.v).all id
def badCall (z : Str) (ops : List Opd) : Option Str := if nameS z = true then (if opsOk ops = true then badInit (.call z ops) else some "operands") else some "name"
/-! the promises -/
def spStop (C CB : Addr) : Sp := fun vs H Q E => vs = [] ∧ Made C CB none (.choice .nil) H Q E
def spNew (C CB : Addr) : Sp := fun vs H Q E => ∃ (z : Str) (k : Int) (b : Addr) (r : Pr), vs = [.str z, .int k, .ref b] ∧ z.length ≤ 40000 ∧ PrAt C H b r ∧ Made C CB (badNew z k r) (.new z k r) H Q E
def spWhen (C CB : Addr) : Sp := fun vs H Q E => ∃ (l r : Opd) (b c : Addr) (y n : Pr), vs = [l.v, r.v, .ref b, .ref c] ∧ l.ok ∧ r.ok ∧ PrAt C H b y ∧ PrAt C H c n ∧ Made C CB (badWhen l r y n) (.cond l r y n) H Q E
/-- a list or a tuple of the operands -/
def OpsAt (K : PySem.W.Frag) (H : Hp) (u : Addr) (ops : List Opd) : Prop := H u = some (.lst (ops.map Opd.v)) ∨ H u = some (.tup (ops.map Opd.v))
def spCall (K : PySem.W.Frag) (C CB : Addr) : Sp := fun vs H Q E => ∃ (z : Str) (u : Addr) (ops : List Opd), vs = [.str z, .ref u] ∧ z.length ≤ 40000 ∧ OpsAt K H u ops ∧ ops.length ≤ 90 ∧ (∀ o ∈ ops, o.ok) ∧ Made C CB (badCall z ops) (.call z ops) H Q E
/-- what the makers ask -/
structure MakT (P : Program) (w : World) (K : PySem.W.Frag) (mg : Str → Option Value) (base : Heap) (C CB : Addr) (k : Nat) : Prop where
  make : MakX P w K mg base (L2.CX P w) k "Process" C (spInit C CB)
  dem : CalX P w K mg base (L2.CX P w) k "demand" (spDemand CB)
  name : CalX P w K mg base CX0 1 "is_name" (spPred nameV)
  operand : CalX P w K mg base CX0 3 "is_operand" (spPred operandV)
  mops : GC mg "MOST_OPERANDS" (.int 4)
  tuple : mg "tuple" = none
  len : mg "len" = none
  all : mg "all" = none
  hk : 3 ≤ k
section
variable {P : Program} {w : World} {K : PySem.W.Frag} {mg : Str → Option Value} {base : Heap} {C CB : Addr} {k : Nat}
theorem Made.bad {o : Option Str} {f : Str} {p : Pr} {H : Hp} {Q : VK} {E : XK} (m : Made C CB o p H Q E) (h : o = some f) : Bad CB f H E := m.2 f h
theorem scCall : FnScope ["name", "operands", "allowed", "part"] ["name", "operands"] (defScope (inClass (topS 36) 5)) := ⟨rfl, rfl, rfl, by decide +kernel, rfl, by decide +kernel, by decide +kernel⟩
theorem evp_call {σ : L2.St} {H : Hp} {z : Str} {u : Addr} {ops : List Opd} (h0 : σ[0]? = some (some (.str z))) (h1 : σ[1]? = some (some (.ref u))) (hu : OpsAt K H u ops) :
    EvP C (tTup (tCons (tVar 0) (tCons (tCB (fun xs H Q => ∃ p ys, xs = [V.ref p] ∧ ((SqL K H p ys ∧ ∀ l, H l = none → Q (.ref l) (upd H l (.tup ys))) ∨ SqT K H p ys ∧ Q (.ref p) H)) (tCons (tVar 1) tNil)) tNil))) σ H (.call z ops) := fun H1 e Q q => by
  rcases hu with hu | hu
  · refine ⟨_, h0, _, h1, u, ops.map Opd.v, rfl, .inl ⟨sq_of (e _ _ hu), fun l hl => ⟨(by show 2 ≤ sizeLine; decide), fun p hp => ?_⟩⟩⟩
    have hpl : l ≠ p := fun z => by rw [← z, upd_same] at hp; cases hp
    refine q p _ [.str z, .ref l] (fresh_back (Ex.new hl) hp) ((Ex.new hl).trans (Ex.new hp)) upd_same (by show 2 ≤ 100; decide) ⟨l, rfl, ?_⟩
    rw [upd_ne hpl]
    exact upd_same
  · refine ⟨_, h0, _, h1, u, ops.map Opd.v, rfl, .inr ⟨st_of (e _ _ hu), (by show 2 ≤ sizeLine; decide), fun p hp => ?_⟩⟩
    exact q p _ [.str z, .ref u] hp (Ex.new hp) upd_same (by show 2 ≤ 100; decide) ⟨u, rfl, Ex.new hp _ _ (e _ _ hu)⟩
theorem OpsAt.ex {H H' : Hp} {u : Addr} {ops : List Opd} (e : Ex H H') (h : OpsAt K H u ops) : OpsAt K H' u ops := h.imp (e _ _) (e _ _)
theorem ops_at {H : Hp} {ops : List Opd} (ho : ∀ o ∈ ops, o.ok) {i : Nat} {x y : V} (hx : (ops.map Opd.v)[i]? = some x) (hy : ((ops.map fun o => operandV o.v).map V.bl)[i]? = some y) : OpV x ∧ y = .bl (operandV x) := by
  rw [List.map_map, List.getElem?_map] at hy
  rw [List.getElem?_map] at hx
  cases hq : ops[i]? with
  | none =>
    rw [hq] at hx
    cases hx
  | some o =>
    rw [hq] at hx hy
    have ex : o.v = x := Option.some.inj hx
    have ey : V.bl (operandV o.v) = y := Option.some.inj hy
    subst ex
    exact ⟨Opd.opv (ho o (List.mem_of_getElem? hq)), ey.symm⟩
theorem ok_call {f : Addr} {fd : FuncData} (F : Fun K "call" "Process.call" (inClass (topS 36) 5) f fd) (M : MakT P w K mg base C CB k) : FnOk P w K mg base (L2.CX P w) (k + 1 + 1) f fd ["name", "operands"] (spCall K C CB) := by
  refine F.okX scCall (fun vs H Q E h => ?_) (fun cdv A outer s H vs Q E hr h => ?_)
  · obtain ⟨z, u, ops, rfl, _⟩ := h
    rfl
  · obtain ⟨z, u, ops, rfl, hz, hu, hl, ho, m⟩ := h
    have h3 := M.hk
    have bad1 : nameV (.str z) = false → Bad CB "name" H E := fun h1 => m.bad (by unfold badCall; rw [if_neg (by rw [show nameS z = false from h1]; decide)])
    have bad2 : nameV (.str z) = true → ∀ H1, Ex H H1 → opsOk ops = false → Bad CB "operands" H1 E := fun h1 H1 e1 h2 => (m.ex e1).bad (by unfold badCall; rw [if_pos (show nameS z = true from h1), if_neg (by rw [h2]; decide)])
    have good : nameV (.str z) = true → opsOk ops = true → ∀ H2, Ex H H2 → Made C CB (badInit (.call z ops)) (.call z ops) H2 Q E := fun h1 h2 H2 e2 => by
      have e : badCall z ops = badInit (.call z ops) := by unfold badCall; rw [if_pos (show nameS z = true from h1), if_pos h2]
      rw [e] at m
      exact m.ex e2
    have hlen : (ops.map Opd.v).length ≤ 40000 := by rw [List.length_map]; omega
    have hlen2 : ((ops.map fun o => operandV o.v).map V.bl).length = (ops.map Opd.v).length := by simp
    have hbs : ((((ops.map Opd.v).length : Nat) : Int)) = ((ops.length : Nat) : Int) := by rw [List.length_map]
    rcases hu with hu | hu
    · refine ⟨_, pss_cons (ps_expr (pe_cx (E := WE (fun cls d _ H => E cls d H)) M.dem hr (Nat.le_succ _) (by rfl) (fun σ => passAt (takes_of rfl rfl rfl rfl) σ) (pa_cons (pe_cx (E := fun _ => E0) M.name hr (by omega) (by rfl) at0 (pa_cons (pv 0) pa_nil)) (pa_cons pe_str pa_nil))))
        (pss_cons (ps_set (i := 2) scCall.nd rfl (Or.inl rfl) (pe_and (pe_cmpR op_le (pe_callB call_len_seq (by rfl) M.len PySem.boot_len (pa_cons (pv 1) pa_nil)) (C8.pe_gc (by rfl) M.mops) (nomark _)) (pe_one (pe_callB (cr_all rfl) (by rfl) M.all (by decide +kernel) (pa_cons
          (pe_lc (own := [("part", 3)]) (g := gName 3) (tt := tYes) (te := tCallS (spPred operandV) (fun _ => E0) (tCons (tVar 3) tNil)) rfl scCall.nd (pi_list (pv 1)) (blkOk_by (own := [("part", 3)]) (N := ["name", "operands", "allowed", "part"]) (sc := defScope (inClass (topS 36) 5)) (by decide +kernel))
            (fun _ _ _ _ _ => pg_name (i := 3) scCall.nd rfl (Or.inl rfl)) (fun _ _ _ _ _ => pts_nil) (fun _ _ _ _ _ => pe_cx (E := fun _ => E0) M.operand hr (by omega) (by rfl) at0 (pa_cons (pv 3) pa_nil))) pa_nil)))))
        (pss_cons (ps_expr (pe_cx (E := WE (fun cls d _ H => E cls d H)) M.dem hr (Nat.le_succ _) (by rfl) (fun σ => passAt (takes_of rfl rfl rfl rfl) σ) (pa_cons (pv 2) (pa_cons pe_str pa_nil))))
        (pss_one (ps_ret (pe_mx M.make hr (Nat.le_refl _) (by rfl) (passes_call (W := fun cls d _ H => E cls d H) (takes_of rfl rfl rfl rfl) (fun _ _ _ _ h => h)) (pa_cons pe_str (pa_cons (pe_tup (pa_cons (pv 0) (pa_cons (pe_callTy call_tuple_of (by rfl) M.tuple (by decide +kernel) (pa_cons (pv 1) pa_nil)) pa_nil))) pa_nil))))))), ?_⟩
      refine q_demand (by decide +kernel) (ev_cx (ea_cons (ev_var rfl) ea_nil) (sp_pred (f := nameV) (v := .str z) hz)) (fun h1 H1 e1 => ?_) bad1
      have hu1 := e1 _ _ hu
      refine q_asg (v := .bl (opsOk ops)) (ev_andV (ev_is (ev_op (ev_is (ev_cb (ea_cons (ev_var rfl) ea_nil) (fun H2 e2 Q' q' => ⟨u, _, rfl, .inl (sq_of (e2 _ _ hu1)), q' H2 (Ex.refl H2)⟩)) (by rw [hbs])) ev_c rv_I0) rfl) (fun _ => ev_all (bs := ops.map fun o => operandV o.v)
        (el_lcLy (ev_var rfl) (sq_of hu1) hlen (fun _ => rfl) hlen2 (fun i x y H2 e2 hx hy => ?_)))) (fun H2 e2 => ?_)
      · obtain ⟨a1, a2⟩ := ops_at (H := H) ho hx hy
        rw [a2]
        exact ev_cx (ea_cons (ev_var rfl) ea_nil) (sp_pred a1)
      · refine q_demand (by decide +kernel) (ev_var rfl) (fun h2 H3 e3 => ?_) (bad2 h1 H2 (e1.trans e2))
        exact ret_make (p := .call z ops) ev_c (evp_call rfl rfl (OpsAt.ex ((e1.trans e2).trans e3) (.inl hu))) (good h1 h2 H3 ((e1.trans e2).trans e3))
    · refine ⟨_, pss_cons (ps_expr (pe_cx (E := WE (fun cls d _ H => E cls d H)) M.dem hr (Nat.le_succ _) (by rfl) (fun σ => passAt (takes_of rfl rfl rfl rfl) σ) (pa_cons (pe_cx (E := fun _ => E0) M.name hr (by omega) (by rfl) at0 (pa_cons (pv 0) pa_nil)) (pa_cons pe_str pa_nil))))
        (pss_cons (ps_set (i := 2) scCall.nd rfl (Or.inl rfl) (pe_and (pe_cmpR op_le (pe_callB call_len_seq (by rfl) M.len PySem.boot_len (pa_cons (pv 1) pa_nil)) (C8.pe_gc (by rfl) M.mops) (nomark _)) (pe_one (pe_callB (cr_all rfl) (by rfl) M.all (by decide +kernel) (pa_cons
          (pe_lc (own := [("part", 3)]) (g := gName 3) (tt := tYes) (te := tCallS (spPred operandV) (fun _ => E0) (tCons (tVar 3) tNil)) rfl scCall.nd (pi_tup (pv 1)) (blkOk_by (own := [("part", 3)]) (N := ["name", "operands", "allowed", "part"]) (sc := defScope (inClass (topS 36) 5)) (by decide +kernel))
            (fun _ _ _ _ _ => pg_name (i := 3) scCall.nd rfl (Or.inl rfl)) (fun _ _ _ _ _ => pts_nil) (fun _ _ _ _ _ => pe_cx (E := fun _ => E0) M.operand hr (by omega) (by rfl) at0 (pa_cons (pv 3) pa_nil))) pa_nil)))))
        (pss_cons (ps_expr (pe_cx (E := WE (fun cls d _ H => E cls d H)) M.dem hr (Nat.le_succ _) (by rfl) (fun σ => passAt (takes_of rfl rfl rfl rfl) σ) (pa_cons (pv 2) (pa_cons pe_str pa_nil))))
        (pss_one (ps_ret (pe_mx M.make hr (Nat.le_refl _) (by rfl) (passes_call (W := fun cls d _ H => E cls d H) (takes_of rfl rfl rfl rfl) (fun _ _ _ _ h => h)) (pa_cons pe_str (pa_cons (pe_tup (pa_cons (pv 0) (pa_cons (pe_callTy call_tuple_of (by rfl) M.tuple (by decide +kernel) (pa_cons (pv 1) pa_nil)) pa_nil))) pa_nil))))))), ?_⟩
      refine q_demand (by decide +kernel) (ev_cx (ea_cons (ev_var rfl) ea_nil) (sp_pred (f := nameV) (v := .str z) hz)) (fun h1 H1 e1 => ?_) bad1
      have hu1 := e1 _ _ hu
      refine q_asg (v := .bl (opsOk ops)) (ev_andV (ev_is (ev_op (ev_is (ev_cb (ea_cons (ev_var rfl) ea_nil) (fun H2 e2 Q' q' => ⟨u, _, rfl, .inr (st_of (e2 _ _ hu1)), q' H2 (Ex.refl H2)⟩)) (by rw [hbs])) ev_c rv_I0) rfl) (fun _ => ev_all (bs := ops.map fun o => operandV o.v)
        (el_lcTy (ev_var rfl) (st_of hu1) hlen (fun _ => rfl) hlen2 (fun i x y H2 e2 hx hy => ?_)))) (fun H2 e2 => ?_)
      · obtain ⟨a1, a2⟩ := ops_at (H := H) ho hx hy
        rw [a2]
        exact ev_cx (ea_cons (ev_var rfl) ea_nil) (sp_pred a1)
      · refine q_demand (by decide +kernel) (ev_var rfl) (fun h2 H3 e3 => ?_) (bad2 h1 H2 (e1.trans e2))
        exact ret_make (p := .call z ops) ev_c (evp_call rfl rfl (OpsAt.ex ((e1.trans e2).trans e3) (.inr hu))) (good h1 h2 H3 ((e1.trans e2).trans e3))
end
end Fs

set_option Elab.async false
set_option linter.all false
set_option maxRecDepth 100000
set_option maxHeartbeats 2000000
namespace Fs
open PySem L2 Evl FsE FsC
structure LawT (K : PySem.W.Frag) (mg : Str → Option Value) : Prop where
  len : mg "len" = none
  int : mg "int" = none
  abs : mg "abs" = none
  range : mg "range" = none
section
variable {P : Program} {w : World} {K : PySem.W.Frag} {mg : Str → Option Value} {base : Heap}
theorem rc_int {K : PySem.W.Frag} {i : Int} {H : Hp} : RC (fun xs H Q => (∃ i, xs = [V.int i] ∧ Q (.int i) H) ∨ ∃ k, xs = [V.bl k] ∧ Q (.int (if k then 1 else 0)) H) [.int i] H (.int i) := fun H1 _ Q q => .inl ⟨i, rfl, q H1 (Ex.refl H1)⟩
/-- _law_cell_at(script, k): some int -/
def spCellAt (K : PySem.W.Frag) : Sp := fun vs H Q _ => ∃ (a : Addr) (ns : List Int) (k : Nat), vs = [.ref a, .int (k : Int)] ∧ SqL K H a (ns.map V.int) ∧ ∀ i : Int, RetV (.int i) H Q
theorem scCellAt : FnScope ["_law_script", "_law_k"] ["_law_script", "_law_k"] (defScope (topS 42)) := ⟨rfl, rfl, rfl, by decide +kernel, rfl, by decide +kernel, by decide +kernel⟩
theorem ok_cell_at {f : Addr} {fd : FuncData} (F : Fun K "_law_cell_at" "_law_cell_at" (topS 42) f fd) (T : LawT K mg) : FnOk P w K mg base CX0 1 f fd ["_law_script", "_law_k"] (spCellAt K) := by
  refine F.ok scCellAt (fun vs H Q E h => ?_) (fun cdv A outer s H vs Q E hr h => ?_)
  · obtain ⟨a, ns, k, rfl, _⟩ := h
    rfl
  · obtain ⟨a, ns, k, rfl, hS, q⟩ := h
    refine ⟨_, pss_cons (ps_if (pt_cmpR op_lt (pv 1) (pe_callB call_len_seq (by rfl) T.len PySem.boot_len (pa_cons (pv 0) pa_nil)) (nomark _)) (pss_one (ps_ret (pe_ix ix_list (pv 0) (pv 1) (fun _ _ => rfl)))) pss_nil) (pss_one (ps_ret pe_int)), ?_⟩
    refine q_when (b := decide ((k : Int) < ((ns.map V.int).length : Nat))) (et_test (ev_op (ev_var rfl) (ev_cb (ea_cons (ev_var rfl) ea_nil) (fun H2 e2 Q' q' => ⟨a, _, rfl, .inl (ex_l e2 hS), q' H2 (Ex.refl H2)⟩)) rv_I0)) (fun hb H1 e1 => ?_) (fun hb H1 e1 => ?_)
    · have hk : k < ns.length := by
        have : (k : Int) < ((ns.map V.int).length : Nat) := by simpa using hb
        rw [List.length_map] at this
        omega
      refine s_ret (v := .int ns[k]) (ev_op (ev_var rfl) (ev_var rfl) (rv_ixL (ex_l e1 hS) (atI_nat (by rw [List.getElem?_map, List.getElem?_eq_getElem hk]; rfl)))) (fun H2 e2 => q _ H2 (e1.trans e2))
    · exact s_ret ev_c (fun H2 e2 => q _ H2 (e1.trans e2))
/-- _law_mixed(cell, k): some int -/
def spMixed : Sp := fun vs H Q _ => ∃ (c : Int) (k : Nat), vs = [.int c, .int (k : Int)] ∧ k ≤ 1000 ∧ ∀ i : Int, RetV (.int i) H Q
theorem scMixed : FnScope ["_law_cell", "_law_k"] ["_law_cell", "_law_k"] (defScope (topS 43)) := ⟨rfl, rfl, rfl, by decide +kernel, rfl, by decide +kernel, by decide +kernel⟩
theorem ok_mixed {f : Addr} {fd : FuncData} (F : Fun K "_law_mixed" "_law_mixed" (topS 43) f fd) (T : LawT K mg) : FnOk P w K mg base CX0 1 f fd ["_law_cell", "_law_k"] spMixed := by
  refine F.ok scMixed (fun vs H Q E h => ?_) (fun cdv A outer s H vs Q E hr h => ?_)
  · obtain ⟨c, k, rfl, _⟩ := h
    rfl
  · obtain ⟨c, k, rfl, hk, q⟩ := h
    refine ⟨_, pss_one (ps_ret (pe_op op_mod (pe_op op_mul (pe_callTy call_int1 (by rfl) T.int (by decide +kernel) (pa_cons (pe_op op_add (pe_op op_mod (pe_op op_pow (pe_op op_add (pe_op op_add (pe_op op_mod (pe_callTy call_int1 (by rfl) T.int (by decide +kernel) (pa_cons (pv 0) pa_nil)) pe_int) (pe_op op_mul pe_int (pv 1))) pe_int) pe_int) pe_int) (pv 1)) pa_nil)) pe_int) pe_int)), ?_⟩
    have h1 := Int.emod_nonneg c (b := 2147483647) (by decide)
    have h2 := Int.emod_lt_of_pos c (b := 2147483647) (by decide)
    refine ⟨.int c, rfl, .inl ⟨c, rfl, c, 2147483647, rfl, rfl, (by decide : (0 : Int) < 2147483647), ?_⟩⟩
    refine ⟨.int (k : Int), rfl, 7919, (k : Int), rfl, rfl, .inl ⟨by decide, by decide⟩, ?_⟩
    refine ⟨c % 2147483647, 7919 * (k : Int), rfl, rfl, c % 2147483647 + 7919 * (k : Int), 104729, rfl, rfl, ?_⟩
    refine ⟨c % 2147483647 + 7919 * (k : Int) + 104729, 5, rfl, rfl, ⟨by decide, by decide, by omega⟩, ?_⟩
    refine ⟨_, 2147483647, rfl, rfl, (by decide : (0 : Int) < 2147483647), ?_⟩
    refine ⟨.int (k : Int), rfl, _, (k : Int), rfl, rfl, .inl ⟨_, rfl, _, 40692, rfl, rfl, .inr ⟨by decide, by decide⟩, ?_⟩⟩
    refine ⟨_, 2147483629, rfl, rfl, (by decide : (0 : Int) < 2147483629), ?_⟩
    exact q _ H (Ex.refl H)
/-- _law_row(cell, many): so many ints from 0 to 999 -/
def RowOk (row : List Int) : Prop := ∀ v ∈ row, 0 ≤ v ∧ v < 1000
def spRow : Sp := fun vs H Q _ => ∃ (c : Int) (n : Nat), vs = [.int c, .int (n : Int)] ∧ n ≤ 500 ∧ ∀ row : List Int, row.length = n → RowOk row → RetL (row.map V.int) H Q
theorem scRow : FnScope ["_law_cell", "_law_many", "_law_row_here", "_law_rest", "_law_k"] ["_law_cell", "_law_many"] (defScope (topS 44)) := ⟨rfl, rfl, rfl, by decide +kernel, rfl, by decide +kernel, by decide +kernel⟩
theorem rowOk_add {row : List Int} {v : Int} (h : RowOk row) (h0 : 0 ≤ v) (h1 : v < 1000) : RowOk (row ++ [v]) := fun x hx => by
  rcases List.mem_append.mp hx with hx | hx
  · exact h x hx
  · rw [List.mem_singleton.mp hx]
    exact ⟨h0, h1⟩
theorem ok_row {f : Addr} {fd : FuncData} (F : Fun K "_law_row" "_law_row" (topS 44) f fd) (T : LawT K mg) (GM : CalX P w K mg base CX0 1 "_law_mixed" spMixed) : FnOk P w K mg base CX0 2 f fd ["_law_cell", "_law_many"] spRow := by
  refine F.ok scRow (fun vs H Q E h => ?_) (fun cdv A outer s H vs Q E hr h => ?_)
  · obtain ⟨c, n, rfl, _⟩ := h
    rfl
  · obtain ⟨c, n, rfl, hn, q⟩ := h
    refine ⟨_, pss_cons (ps_set (i := 2) scRow.nd rfl (Or.inl rfl) (pe_lst pa_nil))
      (pss_cons (ps_set (i := 3) scRow.nd rfl (Or.inl rfl) pe_int)
      (pss_cut (ps_if (pt_cmpR op_ge (pe_callB call_abs (by rfl) T.abs (by decide +kernel) (pa_cons (pv 0) pa_nil)) (pe_op op_pow pe_int pe_int) (nomark _)) (pss_one (ps_set (i := 3) scRow.nd rfl (Or.inl rfl) (pe_callB call_abs (by rfl) T.abs (by decide +kernel) (pa_cons (pv 0) pa_nil)))) pss_nil)
      (pss_cons (ps_for PassesOwn.never rfl (pi_range1 rfl T.range (pa_cons (pv 1) pa_nil)) (pg_name (i := 4) scRow.nd rfl (Or.inl rfl))
        (pss_one (ps_if (pt_cmpR op_gt (pv 3) pe_int (nomark _))
          (pss_cons (ps_expr (pe_bm PySem.F.plainAttrs_list PySem.F.slot_list_append PySem.F.type_list_append mt_append (pv 2) (pa_cons (pe_op op_mod (pe_callTy call_int1 (by rfl) T.int (by decide +kernel) (pa_cons (pv 3) pa_nil)) pe_int) pa_nil)))
            (pss_one (ps_set (i := 3) scRow.nd rfl (Or.inl rfl) (pe_op op_fdiv (pv 3) pe_int))))
          (pss_one (ps_expr (pe_bm PySem.F.plainAttrs_list PySem.F.slot_list_append PySem.F.type_list_append mt_append (pv 2) (pa_cons (pe_op op_mod (pe_callTy call_int1 (by rfl) T.int (by decide +kernel) (pa_cons (pe_cx (E := fun _ => E0) GM hr (by decide) (by rfl) at0 (pa_cons (pv 0) (pa_cons (pv 4) pa_nil))) pa_nil)) pe_int) pa_nil)))))))
      (pss_one (ps_ret (pv 2)))))), ?_⟩
    refine q_asgL (xs := []) (el_lst ea_nil (by decide)) (fun l H1 hl e1 h1 => ?_)
    refine q_asg (v := .int 0) ev_c (fun H2 e2 => ?_)
    refine q_cut (M := fun σ' H' => ∃ r : Int, σ' = [some (.int c), some (.int (n : Int)), some (.ref l), some (.int r), none] ∧ Ex H H' ∧ H' l = some (.lst [])) ?_ (fun σ3 H3 ⟨r, hσ3, e3, h3⟩ => ?_)
    · refine s_when (b := decide ((10 : Int) ^ (18 : Int).toNat ≤ if c < 0 then -c else c)) (et_test (ev_op (ev_cb (ea_cons (ev_var rfl) ea_nil) (fun H4 _ Q' q' => ⟨c, rfl, q' H4 (Ex.refl H4)⟩)) (ev_op ev_c ev_c (rv_I ⟨by decide, by decide, by decide⟩)) rv_I0)) (fun hb H3 e3 => ?_) (fun hb H3 e3 => ?_)
      · exact s_asg (ev_cb (ea_cons (ev_var rfl) ea_nil) (fun H4 _ Q' q' => ⟨c, rfl, q' H4 (Ex.refl H4)⟩)) (fun H4 e4 => ⟨_, rfl, ((e1.trans e2).trans e3).trans e4, (e2.trans (e3.trans e4)) _ _ h1⟩)
      · exact ⟨0, rfl, (e1.trans e2).trans e3, (e2.trans e3) _ _ h1⟩
    · subst hσ3
      refine q_forR1 (n := (n : Int)) (ea_cons (ev_var rfl) ea_nil) (by omega) (fun i σ' H' => ∃ (row : List Int) (rest : Int) (v4 : Option V), σ' = [some (.int c), some (.int (n : Int)), some (.ref l), some (.int rest), v4] ∧ H' l = some (.lst (row.map V.int)) ∧ row.length = i ∧ RowOk row ∧ Ex H H')
        (fun H4 e4 => ⟨[], r, none, rfl, e4 _ _ h3, rfl, (fun v hv => nomatch hv), e3.trans e4⟩) (fun i σ' H' hi ⟨row, rest, v4, hσ, hl', hlen, hrow, he⟩ => ?_) (fun σ' H' ⟨row, rest, v4, hσ, hl', hlen, hrow, he⟩ => ?_)
      · subst hσ
        have hsz : (row.map V.int).length < 100000 := by rw [List.length_map]; omega
        have app : ∀ v : Int, row.map V.int ++ [V.int v] = (row ++ [v]).map V.int := fun v => by rw [List.map_append]; rfl
        refine s_if (b := decide (0 < rest)) (et_test (ev_op (ev_var rfl) ev_c rv_I0)) (fun hb H4 e4 => ?_) (fun hb H4 e4 => ?_)
        · refine q_app (xs := row.map V.int) (v := .int (rest % 1000)) (e4 _ _ hl') (ev_var rfl) (ev_op (x := .int rest) (ev_cb (ea_cons (ev_var rfl) ea_nil) (rc_int (K := K))) ev_c (rv_I (by decide))) hsz (fun H5 e5 => ?_)
          refine s_asg (ev_op (x := .int rest) (ev_var rfl) ev_c (rv_I ⟨by decide, by decide⟩)) (fun H6 e6 => ?_)
          refine ⟨row ++ [rest % 1000], _, _, rfl, e6 _ _ (by rw [← app]; exact upd_same), (by rw [List.length_append, hlen]; rfl), rowOk_add hrow (Int.emod_nonneg _ (by decide)) (Int.emod_lt_of_pos _ (by decide)), (Ex.mut ((he.trans e4).trans e5) hl).trans e6⟩
        · refine ⟨_, rfl, .inl ⟨rfl, _, sq_of (e4 _ _ hl')⟩, _, rfl, _, rfl, c, i, rfl, by omega, fun m H5 e5 => .inl ⟨m, rfl, m, 1000, rfl, rfl, (by decide : (0 : Int) < 1000), l, row.map V.int, .int (m % 1000), rfl, rfl, (e4.trans e5) _ _ hl', sz_lt hsz, ?_⟩⟩
          refine ⟨row ++ [m % 1000], _, _, rfl, (by rw [← app]; exact upd_same), (by rw [List.length_append, hlen]; rfl), rowOk_add hrow (Int.emod_nonneg _ (by decide)) (Int.emod_lt_of_pos _ (by decide)), Ex.mut ((he.trans e4).trans e5) hl⟩
      · subst hσ
        have hn' : row.length = n := by simpa using hlen
        refine s_ret (ev_var rfl) (fun H4 e4 => q row hn' hrow l H4 hl (he.trans e4) (e4 _ _ hl'))
end
end Fs

set_option Elab.async false
set_option linter.all false
set_option maxRecDepth 100000
set_option maxHeartbeats 2000000
/-! Lists of things that stand in the heap; what a list's change leaves. -/
namespace FsK
open PySem PySem.Spec PyProof.Rows L2 Evl FsE FsC FsR Fs
/-- a list may change: what stands in objects and tuples stays -/
structure ExN (H H' : Hp) : Prop where
  ins : ∀ a C dx fs, H a = some (.ins C dx fs) → H' a = some (.ins C dx fs)
  tup : ∀ a xs, H a = some (.tup xs) → H' a = some (.tup xs)
theorem ExN.upd {H : Hp} {l : Addr} {xs ys : List V} (h : H l = some (.lst xs)) : ExN H (upd H l (.lst ys)) := ⟨fun a C dx fs ha => by
    rw [upd_ne (fun z => by rw [z, h] at ha; cases ha)]
    exact ha, fun a xs ha => by
    rw [upd_ne (fun z => by rw [z, h] at ha; cases ha)]
    exact ha⟩
theorem ExN.of {H H' : Hp} (e : Ex H H') : ExN H H' := ⟨fun _ _ _ _ h => e _ _ h, fun _ _ h => e _ _ h⟩
theorem ExN.trans {H H1 H2 : Hp} (e : ExN H H1) (e' : ExN H1 H2) : ExN H H2 := ⟨fun a C dx fs h => e'.ins _ _ _ _ (e.ins _ _ _ _ h), fun a xs h => e'.tup _ _ (e.tup _ _ h)⟩
mutual
theorem PrAt.keep {C : Addr} {H H' : Hp} (e : ExN H H') : ∀ {p : Pr} {a : Addr}, PrAt C H a p → PrAt C H' a p
  | .choice os, a, h => by
    unfold PrAt at h ⊢
    obtain ⟨t, ps, ⟨dx, h1⟩, h2, h3⟩ := h
    exact ⟨t, ps, ⟨dx, e.ins _ _ _ _ h1⟩, e.tup _ _ h2, OfsAt.keep e h3⟩
  | .new n k r, a, h => by
    unfold PrAt at h ⊢
    obtain ⟨t, b, ⟨dx, h1⟩, h2, h3⟩ := h
    exact ⟨t, b, ⟨dx, e.ins _ _ _ _ h1⟩, e.tup _ _ h2, PrAt.keep e h3⟩
  | .cond l r y n, a, h => by
    unfold PrAt at h ⊢
    obtain ⟨t, b, c, ⟨dx, h1⟩, h2, h3, h4⟩ := h
    exact ⟨t, b, c, ⟨dx, e.ins _ _ _ _ h1⟩, e.tup _ _ h2, PrAt.keep e h3, PrAt.keep e h4⟩
  | .call n ops, a, h => by
    unfold PrAt at h ⊢
    obtain ⟨t, u, ⟨dx, h1⟩, h2, h3⟩ := h
    exact ⟨t, u, ⟨dx, e.ins _ _ _ _ h1⟩, e.tup _ _ h2, e.tup _ _ h3⟩
theorem OfsAt.keep {C : Addr} {H H' : Hp} (e : ExN H H') : ∀ {os : Ofs} {ps : List V}, OfsAt C H ps os → OfsAt C H' ps os
  | .nil, ps, h => by
    unfold OfsAt at h ⊢
    exact h
  | .cons c s m op ns r os, ps, h => by
    unfold OfsAt at h ⊢
    obtain ⟨o, u, b, qs, h1, h2, h3, h4, h5⟩ := h
    exact ⟨o, u, b, qs, h1, e.tup _ _ h2, e.tup _ _ h3, PrAt.keep e h4, OfsAt.keep e h5⟩
end
/-- item by item -/
def LsA {α : Type} (R : Hp → V → α → Prop) (H : Hp) : List V → List α → Prop
  | [], [] => True
  | v :: vs, x :: xs => R H v x ∧ LsA R H vs xs
  | _, _ => False
section
variable {α : Type} {R : Hp → V → α → Prop} {H H' : Hp}
theorem LsA.imp (e : ∀ v x, R H v x → R H' v x) : ∀ {vs : List V} {xs : List α}, LsA R H vs xs → LsA R H' vs xs
  | [], [], _ => True.intro
  | _ :: _, _ :: _, h => ⟨e _ _ h.1, LsA.imp e h.2⟩
  | [], _ :: _, h => h.elim
  | _ :: _, [], h => h.elim
theorem LsA.append : ∀ {vs ws : List V} {xs ys : List α}, LsA R H vs xs → LsA R H ws ys → LsA R H (vs ++ ws) (xs ++ ys)
  | [], _, [], _, _, g => g
  | _ :: _, _, _ :: _, _, h, g => ⟨h.1, LsA.append h.2 g⟩
  | [], _, _ :: _, _, h, _ => h.elim
  | _ :: _, _, [], _, h, _ => h.elim
theorem LsA.snoc {v : V} {x : α} {vs : List V} {xs : List α} (h : LsA R H vs xs) (hv : R H v x) : LsA R H (vs ++ [v]) (xs ++ [x]) := h.append ⟨hv, True.intro⟩
theorem LsA.length : ∀ {vs : List V} {xs : List α}, LsA R H vs xs → vs.length = xs.length
  | [], [], _ => rfl
  | _ :: _, _ :: _, h => congrArg (· + 1) (LsA.length h.2)
  | [], _ :: _, h => h.elim
  | _ :: _, [], h => h.elim
theorem LsA.get : ∀ {vs : List V} {xs : List α} {i : Nat} {v : V}, LsA R H vs xs → vs[i]? = some v → ∃ x, xs[i]? = some x ∧ R H v x
  | _ :: _, x :: _, 0, v, h, e => ⟨x, rfl, by cases e; exact h.1⟩
  | _ :: _, _ :: _, i + 1, v, h, e => LsA.get (i := i) h.2 e
  | [], _, _, _, _, e => by simp at e
  | _ :: _, [], _, _, h, _ => h.elim
theorem LsA.at_ {vs : List V} {xs : List α} {i : Nat} (h : LsA R H vs xs) (hi : i < vs.length) : ∃ v x, vs[i]? = some v ∧ xs[i]? = some x ∧ R H v x := by
  obtain ⟨x, h1, h2⟩ := LsA.get h (List.getElem?_eq_getElem hi)
  exact ⟨_, x, List.getElem?_eq_getElem hi, h1, h2⟩
end
/-- it evaluates to something with this word -/
def EvS (te : TE) (σ : L2.St) (H : Hp) (Pv : V → Hp → Prop) : Prop := ∀ H1, Ex H H1 → ∀ Q : VK, (∀ v H2, Ex H1 H2 → Pv v H2 → Q v H2) → te σ H1 Q
section
variable {σ : L2.St} {H : Hp} {te ta : TE} {Pv : V → Hp → Prop} {K : PySem.W.Frag} {D : Ends} {tz : TS}
theorem s_appS {l : Addr} {xs : List V} (hl : H l = some (.lst xs)) (ha : Ev ta σ H (.ref l)) (h : EvS te σ H Pv) (hz : xs.length < 100000) (k : ∀ v H1, Ex H H1 → Pv v H1 → D.nx σ (upd H1 l (.lst (xs ++ [v])))) :
    tDrop (tBM K "list" rAppend ta (tCons te tNil)) D σ H := ha H (Ex.refl H) _ fun H1 e1 =>
  ⟨Or.inl ⟨rfl, xs, sq_of (e1 l _ hl)⟩, h H1 e1 _ fun v H2 e2 hv => ⟨l, xs, v, rfl, rfl, e2 l _ (e1 l _ hl), sz_lt hz, k v H2 (e1.trans e2) hv⟩⟩
theorem q_asgS {i : Nat} (h : EvS te σ H Pv) (k : ∀ v H1, Ex H H1 → Pv v H1 → tz D (σ.set i (some v)) H1) : tSeq (tAsg te (gName i)) tz D σ H := h H (Ex.refl H) _ fun v H1 e1 hv => k v H1 e1 hv
theorem s_retS (h : EvS te σ H Pv) (k : ∀ v H1, Ex H H1 → Pv v H1 → D.rt v H1) : tRet te D σ H := h H (Ex.refl H) _ fun v H1 e1 hv => k v H1 e1 hv
/-- a slice of a new list -/
theorem el_slN {tl th : TO} {xs : List V} {lo hi : Option Int} (h : EvL te σ H xs) (h1 : EvO tl σ H lo) (h2 : EvO th σ H hi) : EvL (tSl (rSlL K) te tl th) σ H (cutV xs lo hi) := fun H1 e Q q =>
  h H1 e _ fun a H2 ha e2 h2' => h1 H2 (e.trans e2) _ fun H3 e3 => h2 H3 ((e.trans e2).trans e3) _ fun H4 e4 =>
    ⟨a, xs, rfl, sq_of ((e3.trans e4) _ _ h2'), fun p hp => q p _ (fresh_back ((e2.trans e3).trans e4) hp) (((e2.trans e3).trans e4).trans (Ex.new hp)) upd_same⟩
end
end FsK

set_option Elab.async false
set_option linter.all false
set_option maxRecDepth 100000
set_option maxHeartbeats 2000000
/-! a == b of instances of one own class, both answers; a op i, i an int. -/
namespace FsR
open PySem PySem.Spec PyProof.Rows L2 Evl
structure EqM (K : PySem.W.Frag) (C : Addr) (g : Addr) : Prop where
  at_ : PySem.W.findIn K (.ref C) "__eq__" = some (some (.ref g))
  fn : PySem.W.isFn K (.ref g) = true
/-- a == b -/
def rOwnEq (C : Addr) (sp : Sp) (E : XK) : R2 := fun x y H Q => ∃ (a b dx dy : Addr) (fs gs : List (Str × V)), x = .ref a ∧ y = .ref b ∧ H a = some (.ins C dx fs) ∧ H b = some (.ins C dy gs) ∧ sp [.ref a, .ref b] H Q E
theorem op_ownEq {X : Cx} {CX : CXT} {k : Nat} {C g : Addr} {fd : FuncData} {ps : List Str} {sp : Sp} {E : XK} (M : EqM X.K C g) (F : FnOk X.prog X.w X.K X.mg X.base CX k g fd ps sp) (hr : Room k X.A) (hd : Binds X.K fd ps []) (hx : ∀ σ, PassesAt CX X σ E) : OpR X (compareOp .Eq) (rOwnEq C sp E) := by
  intro pins s σ H x y v u Q I rx ry h
  obtain ⟨a, b, dx, dy, fs, gs, rfl, rfl, h1, h2, q⟩ := h
  obtain rfl : v = Value.ref a := rx
  obtain rfl : u = Value.ref b := ry
  obtain ⟨_, O1, _, _, _, _⟩ := ins_get I.hok h1
  obtain ⟨_, O2, _, _, _, _⟩ := ins_get I.hok h2
  obtain ⟨_, i1, _⟩ := O1.look
  obtain ⟨_, i2, _⟩ := O2.look
  obtain ⟨m, fr⟩ := I.fr
  show wpAny _ _ (richCompare .Eq _ _) _ _ _
  refine PySem.W.cmp_K (op := .Eq) (tb := .ref C) hr.units0 fr I.ok.mod.kin i1 i2.type (by unfold PySem.W.notFirst; rw [beq_self_eq_true, Bool.true_or]) M.at_ M.fn ?_
  refine wpAny_mono (run_fnS (E := fun _ => E) (us := [.ref a, .ref b]) (vs := [.ref a, .ref b]) F hr hd (hx σ) I (.cons rfl (.cons rfl .nil)) q) (fun w s' hw => ?_) fun _ _ z => z
  obtain ⟨y, H', J, r, q'⟩ := hw
  have fin : EP X pins σ Q w s' := ⟨y, H', J, r, q'⟩
  cases w with
  | notImplemented => exact no_notimpl r
  | _ => exact fin
structure OpI (K : PySem.W.Frag) (C : Addr) (op : Operator) (g : Addr) : Prop where
  fst : PySem.W.selfFirst K C = true
  at_ : PySem.W.findIn K (.ref C) (PySem.dunder op.info.2) = some (some (.ref g))
  fn : PySem.W.isFn K (.ref g) = true
  rv : PySem.W.findIn K (.ref C) (dunderR op.info.2) = some none
  h1 : ∃ fo, PySem.W.findIn K (.type "int") (PySem.dunder op.info.2) = some fo
  h2 : ∃ ro, PySem.W.findIn K (.type "int") (dunderR op.info.2) = some ro
  sub : PySem.W.subIn K (.type "int") (.ref C) = some false
/-- a op i -/
def tOwnI (C : Addr) (sp : Sp) (E : L2.St → XK) (ta tb : TE) : TE := fun σ H Q => ta σ H fun x H1 => tb σ H1 fun y H2 => ∃ (a dx : Addr) (fs : List (Str × V)) (i : Int), x = .ref a ∧ y = .int i ∧ H2 a = some (.ins C dx fs) ∧ sp [.ref a, .int i] H2 Q (E σ)
theorem pe_ownI {X : Cx} {CX : CXT} {k : Nat} {C g : Addr} {fd : FuncData} {ps : List Str} {sp : Sp} {E : L2.St → XK} {ea eb : Expr} {op : Operator} {pos : Pos} {ta tb : TE} (ha : PE X ea ta) (hb : PE X eb tb) (M : OpI X.K C op g) (F : FnOk X.prog X.w X.K X.mg X.base CX k g fd ps sp) (hr : Room k X.A) (hd : Binds X.K fd ps [])
    (hx : ∀ σ, PassesAt CX X σ (E σ)) : PE X (.BinOp ea op eb pos) (tOwnI C sp E ta tb) := by
  refine ⟨fun pins s σ H Q I h => wpAny_BinOp (binT ha hb I h fun v u s2 x y H2 I2 rx ry q => ?_)⟩
  obtain ⟨a, dx, fs, i, rfl, rfl, h1, q⟩ := q
  obtain rfl : v = Value.ref a := rx
  obtain ⟨t, rfl⟩ := ry
  obtain ⟨_, O1, _, _, _, _⟩ := ins_get I2.hok h1
  obtain ⟨_, i1, _⟩ := O1.look
  obtain ⟨m, fr⟩ := I2.fr
  obtain ⟨fo, hfo⟩ := M.h1
  obtain ⟨ro, hro⟩ := M.h2
  refine PySem.W.ksp_binT fr I2.ok.mod.kin i1 (T := "int") rfl M.fst M.at_ M.fn M.rv (.inl rfl) hfo hro M.sub (wpAny_mono (run_fnS (us := [.ref a, .int i t]) (vs := [.ref a, .int i]) F hr hd (hx σ) I2 (.cons rfl (.cons ⟨t, rfl⟩ .nil)) q) (fun w s' hw => ?_) fun _ _ z => z)
  obtain ⟨y, H', J, r, q'⟩ := hw
  have fin : EP X pins σ Q w s' := ⟨y, H', J, r, q'⟩
  cases w with
  | notImplemented => exact no_notimpl r
  | _ => exact fin
end FsR

set_option Elab.async false
set_option linter.all false
set_option maxRecDepth 100000
set_option maxHeartbeats 2000000
/-! xs != [], xs == []. -/
namespace FsR
open PySem PySem.Spec PyProof.Rows L2 Evl
def rNeNil (K : PySem.W.Frag) : R2 := fun x y H Q => ∃ (a b : Addr) (xs : List V), x = .ref a ∧ y = .ref b ∧ SqL K H a xs ∧ SqL K H b [] ∧ Q (.bl (!xs.isEmpty)) H
theorem op_neNil {X : Cx} (hu : X.A.units < cLine) : OpR X (compareOp .NotEq) (rNeNil X.K) := by
  intro pins s σ H x y v u Q I rx ry h
  obtain ⟨a, b, xs, rfl, rfl, ha, hb, q⟩ := h
  obtain rfl : v = Value.ref a := rx
  obtain rfl : u = Value.ref b := ry
  obtain ⟨us, r1, p1, _⟩ := I.list ha
  obtain ⟨ws, r2, p2, _⟩ := I.list hb
  have hws : ws = [] := by
    cases r2
    rfl
  subst hws
  cases r1 with
  | nil =>
    refine SeqAt.RcNeAt.lists (e := fun _ => true) p1.isList p2.isList rfl hu (fun j h1 _ => by simp at h1) X.prog X.w X.xe _ ?_
    exact ⟨.bl false, H, I, rfl, q⟩
  | cons r rs =>
    refine SeqAt.RcNeAt.lists_lengths p1.isList p2.isList (by simp) hu X.prog X.w X.xe _ ?_
    exact ⟨.bl true, H, I, rfl, q⟩
def rEqNil (K : PySem.W.Frag) : R2 := fun x y H Q => ∃ (a b : Addr) (xs : List V), x = .ref a ∧ y = .ref b ∧ SqL K H a xs ∧ SqL K H b [] ∧ Q (.bl xs.isEmpty) H
theorem op_eqNil {X : Cx} (hu : X.A.units < cLine) : OpR X (compareOp .Eq) (rEqNil X.K) := by
  intro pins s σ H x y v u Q I rx ry h
  obtain ⟨a, b, xs, rfl, rfl, ha, hb, q⟩ := h
  obtain rfl : v = Value.ref a := rx
  obtain rfl : u = Value.ref b := ry
  obtain ⟨us, r1, p1, _⟩ := I.list ha
  obtain ⟨ws, r2, p2, _⟩ := I.list hb
  have hws : ws = [] := by
    cases r2
    rfl
  subst hws
  cases r1 with
  | nil =>
    refine SeqAt.RcAt.lists (e := fun _ => true) p1.isList p2.isList rfl hu (fun j h1 _ => by simp at h1) X.prog X.w X.xe _ ?_
    exact ⟨.bl true, H, I, rfl, q⟩
  | cons r rs =>
    refine SeqAt.RcAt.lists_lengths p1.isList p2.isList (by simp) hu X.prog X.w X.xe _ ?_
    exact ⟨.bl false, H, I, rfl, q⟩
theorem rv_neNil {K : PySem.W.Frag} {H : Hp} {a b : Addr} {xs : List V} (ha : SqL K H a xs) (hb : SqL K H b []) : RV (rNeNil K) (.ref a) (.ref b) H (.bl (!xs.isEmpty)) := fun H1 e _ q => ⟨a, b, xs, rfl, rfl, ex_l e ha, ex_l e hb, q H1 (Ex.refl H1)⟩
theorem rv_eqNil {K : PySem.W.Frag} {H : Hp} {a b : Addr} {xs : List V} (ha : SqL K H a xs) (hb : SqL K H b []) : RV (rEqNil K) (.ref a) (.ref b) H (.bl xs.isEmpty) := fun H1 e _ q => ⟨a, b, xs, rfl, rfl, ex_l e ha, ex_l e hb, q H1 (Ex.refl H1)⟩
end FsR
namespace FsR
open PySem PySem.Spec PyProof.Rows L2 Evl
/-- xs != ys, the same objects in both -/
def rNeSame (K : PySem.W.Frag) : R2 := fun x y H Q => ∃ (a b : Addr) (xs : List V), x = .ref a ∧ y = .ref b ∧ SqL K H a xs ∧ SqL K H b xs ∧ (∀ v ∈ xs, ∃ c, v = V.ref c) ∧ Q (.bl false) H
theorem vals_refs : ∀ {xs : List V} {us ws : List Value}, (∀ v ∈ xs, ∃ c, v = V.ref c) → Vals xs us → Vals xs ws → us = ws
  | _, _, _, _, .nil, .nil => rfl
  | x :: xs, _ :: _, _ :: _, h, .cons r rs, .cons t ts => by
    obtain ⟨c, rfl⟩ := h x List.mem_cons_self
    cases r
    cases t
    rw [vals_refs (fun v hv => h v (List.mem_cons_of_mem _ hv)) rs ts]
theorem op_neSame {X : Cx} (hu : X.A.units < cLine) : OpR X (compareOp .NotEq) (rNeSame X.K) := by
  intro pins s σ H x y v u Q I rx ry h
  obtain ⟨a, b, xs, rfl, rfl, ha, hb, hx, q⟩ := h
  obtain rfl : v = Value.ref a := rx
  obtain rfl : u = Value.ref b := ry
  obtain ⟨us, r1, p1, _⟩ := I.list ha
  obtain ⟨ws, r2, p2, _⟩ := I.list hb
  have e := vals_refs hx r1 r2
  subst e
  refine SeqAt.RcNeAt.lists (e := fun _ => true) p1.isList p2.isList rfl hu (fun j h1 _ => SeqAt.EqAt.same _) X.prog X.w X.xe _ ?_
  refine ⟨.bl false, H, I, ?_, q⟩
  show Value.bool _ = Value.bool false
  simp
theorem rv_neSame {K : PySem.W.Frag} {H : Hp} {a b : Addr} {xs : List V} (ha : SqL K H a xs) (hb : SqL K H b xs) (hx : ∀ v ∈ xs, ∃ c, v = V.ref c) : RV (rNeSame K) (.ref a) (.ref b) H (.bl false) := fun H1 e _ q => ⟨a, b, xs, rfl, rfl, ex_l e ha, ex_l e hb, hx, q H1 (Ex.refl H1)⟩
end FsR

set_option Elab.async false
set_option linter.all false
set_option maxRecDepth 100000
set_option maxHeartbeats 8000000
/-! what the laws ask of a book -/
namespace Fs
open PySem L2 Evl FsE FsC FsR FsA FsD FsU FsK FsT
/-- the laws' four definitions -/
def pmS (k : Int) : List Str := if k = 2 then ["y", "x"] else if k = 3 then ["x"] else ["x", "y"]
def bmI (k : Int) : Int := if k = 1 then 2 else 1
theorem pm_bm {k q : Int} (h : 0 ≤ k ∧ k ≤ 3) (g : 0 ≤ q ∧ q ≤ 3) (e : pmS k = pmS q) (e2 : bmI k = bmI q) : k = q := by
  have hk : k = 0 ∨ k = 1 ∨ k = 2 ∨ k = 3 := by omega
  have hq : q = 0 ∨ q = 1 ∨ q = 2 ∨ q = 3 := by omega
  rcases hk with rfl | rfl | rfl | rfl <;> rcases hq with rfl | rfl | rfl | rfl <;> first | rfl | (exfalso; revert e e2; decide +kernel)
/-- a definition with a mark -/
def DkAt (CD C : Addr) (H : Hp) (v : V) (k : Int) : Prop := (0 ≤ k ∧ k ≤ 3) ∧ ∃ a b, v = .ref a ∧ DfAt CD H a (pmS k) b ∧ PrAt C H b (.call "f" [.int (bmI k)])
theorem DkAt.ex {CD C : Addr} {H H' : Hp} (e : Ex H H') {v : V} {k : Int} (h : DkAt CD C H v k) : DkAt CD C H' v k := by
  obtain ⟨h0, a, b, h1, h2, h3⟩ := h
  exact ⟨h0, a, b, h1, h2.ex e, h3.ex e⟩
theorem DfAt.keepC {CD : Addr} {H H' : Hp} (e : ExC CD H H') {a b : Addr} {ns : List Str} (h : DfAt CD H a ns b) : DfAt CD H' a ns b := by
  obtain ⟨dx, t, h2, h3⟩ := h
  exact ⟨dx, t, e.ins _ _ _ h2, e.tup _ _ h3⟩
theorem DkAt.keepC {CD C : Addr} {H H' : Hp} (e : ExC CD H H') (f : ExC C H H') {v : V} {k : Int} (h : DkAt CD C H v k) : DkAt CD C H' v k := by
  obtain ⟨h0, a, b, h1, h2, h4⟩ := h
  exact ⟨h0, a, b, h1, h2.keepC e, h4.keepC f⟩
def Good (z : Str) : Prop := nameS z = true ∧ z.length ≤ 8 ∧ PyData.strOk z = true
/-- names and marks of a table -/
structure Tab (CD C : Addr) (H : Hp) (kvs : List (Key × V)) (ns : List Str) (ks : List Int) : Prop where
  keys : kvs.map (·.1) = ns.map Sum.inr
  vals : LsA (DkAt CD C) H (kvs.map (·.2)) ks
  nd : ns.Nodup
  nm : ∀ z ∈ ns, Good z
theorem nodup_map {α β : Type} {f : α → β} (hf : ∀ x y, f x = f y → x = y) : ∀ {l : List α}, l.Nodup → (l.map f).Nodup
  | [], _ => .nil
  | a :: l, h => by
    obtain ⟨h1, h2⟩ := List.nodup_cons.mp h
    refine List.nodup_cons.mpr ⟨fun z => ?_, nodup_map hf h2⟩
    obtain ⟨b, hb, e⟩ := List.mem_map.mp z
    rw [hf _ _ e] at hb
    exact h1 hb
section
variable {CD C : Addr} {H H' : Hp} {kvs : List (Key × V)} {ns : List Str} {ks : List Int} {z : Str}
theorem Tab.ex (e : Ex H H') (h : Tab CD C H kvs ns ks) : Tab CD C H' kvs ns ks := ⟨h.keys, h.vals.imp fun _ _ z => z.ex e, h.nd, h.nm⟩
theorem Tab.keepC (e : ExC CD H H') (f : ExC C H H') (h : Tab CD C H kvs ns ks) : Tab CD C H' kvs ns ks := ⟨h.keys, h.vals.imp fun _ _ z => z.keepC e f, h.nd, h.nm⟩
theorem Tab.ndk (h : Tab CD C H kvs ns ks) : (kvs.map (·.1)).Nodup := by
  rw [h.keys]
  exact nodup_map (fun _ _ e => Sum.inr.inj e) h.nd
theorem Tab.l1 (h : Tab CD C H kvs ns ks) : kvs.length = ns.length := by
  have e := congrArg List.length h.keys
  rw [List.length_map, List.length_map] at e
  exact e
theorem Tab.l2 (h : Tab CD C H kvs ns ks) : ks.length = ns.length := by
  have e := h.vals.length
  rw [List.length_map] at e
  rw [← e, h.l1]
/-- where a name stands -/
theorem valV_at : ∀ {kvs : List (Key × V)} {ns : List Str} {j : Nat}, kvs.map (·.1) = ns.map Sum.inr → ns.Nodup → ns[j]? = some z → valV kvs (.inr z) = (kvs.map (·.2))[j]?
  | [], [], _, _, _, h => by simp at h
  | [], _ :: _, _, e, _, _ => by simp at e
  | _ :: _, [], _, e, _, _ => by simp at e
  | p :: kvs, n :: ns, 0, e, nd, h => by
    injection e with e1 e2
    cases h
    rw [valV_pos e1]
    rfl
  | p :: kvs, n :: ns, j + 1, e, nd, h => by
    injection e with e1 e2
    have e1 : p.1 = Sum.inr n := e1
    have hne : p.1 ≠ Sum.inr z := fun y => by
      rw [e1] at y
      have : n = z := Sum.inr.inj y
      rw [this] at nd
      exact (List.nodup_cons.mp nd).1 (List.mem_of_getElem? h)
    rw [valV_neg hne, valV_at e2 (List.nodup_cons.mp nd).2 (show ns[j]? = some z from h)]
    rfl
theorem valV_no : ∀ {kvs : List (Key × V)} {ns : List Str}, kvs.map (·.1) = ns.map Sum.inr → z ∉ ns → valV kvs (.inr z) = none
  | [], [], _, _ => rfl
  | [], _ :: _, e, _ => by simp at e
  | _ :: _, [], e, _ => by simp at e
  | p :: kvs, n :: ns, e, h => by
    injection e with e1 e2
    have e1 : p.1 = Sum.inr n := e1
    have hne : p.1 ≠ Sum.inr z := fun y => by
      rw [e1] at y
      exact h (List.mem_cons.mpr (.inl (Sum.inr.inj y).symm))
    rw [valV_neg hne]
    exact valV_no e2 fun y => h (List.mem_cons_of_mem _ y)
theorem Tab.get (h : Tab CD C H kvs ns ks) (hz : z ∈ ns) : ∃ (j : Nat) (v : V) (k : Int), ns[j]? = some z ∧ valV kvs (.inr z) = some v ∧ ks[j]? = some k ∧ DkAt CD C H v k := by
  obtain ⟨j, hj⟩ := List.mem_iff_getElem?.mp hz
  have hj' : j < (kvs.map (·.2)).length := by
    rw [List.length_map, h.l1]
    exact (List.getElem?_eq_some_iff.mp hj).1
  obtain ⟨v, k, h1, h2, h3⟩ := h.vals.at_ hj'
  exact ⟨j, v, k, hj, by rw [valV_at h.keys h.nd hj, h1], h2, h3⟩
theorem Tab.has (h : Tab CD C H kvs ns ks) : (valV kvs (.inr z)).isSome = decide (z ∈ ns) := by
  by_cases hz : z ∈ ns
  · obtain ⟨j, v, k, _, h2, _⟩ := h.get hz
    rw [h2, decide_eq_true hz]
    rfl
  · rw [valV_no h.keys hz, decide_eq_false hz]
    rfl
theorem inV_ns : ∀ {ns : List Str}, inV (.str z) (ns.map V.str) = decide (z ∈ ns)
  | [] => rfl
  | n :: ns => by
    have ih := @inV_ns ns
    unfold inV at ih ⊢
    rw [List.map_cons, List.any_cons, ih]
    have e : eqV (.str n) (.str z) = decide (z = n) := by
      show (n == z) = decide (z = n)
      rw [Bool.eq_iff_iff, beq_iff_eq, decide_eq_true_eq]
      exact eq_comm
    rw [e, ← Bool.decide_or]
    exact decide_eq_decide.mpr (by rw [List.mem_cons])
theorem flat_ns : ∀ {ns : List Str}, (ns.map V.str).all flatV = true
  | [] => rfl
  | n :: ns => by
    rw [List.map_cons, List.all_cons, flat_ns]
    rfl
/-- put: in its place or at the end -/
theorem putK_at : ∀ {kvs : List (Key × V)} {ns : List Str} {j : Nat} {v : V}, kvs.map (·.1) = ns.map Sum.inr → ns.Nodup → ns[j]? = some z → putK kvs (.inr z) v = kvs.set j (.inr z, v) := fun {kvs ns j v} e nd h => by
  have hm : z ∈ ns := List.mem_of_getElem? h
  have any : (kvs.any fun kv => decide (kv.1 = Sum.inr z)) = true := by
    have : Sum.inr z ∈ kvs.map (·.1) := by
      rw [e]
      exact List.mem_map.mpr ⟨z, hm, rfl⟩
    obtain ⟨p, hp, hq⟩ := List.mem_map.mp this
    exact List.any_eq_true.mpr ⟨p, hp, decide_eq_true hq⟩
  unfold putK
  rw [if_pos any]
  refine List.ext_getElem? fun i => ?_
  rw [List.getElem?_map, List.getElem?_set]
  cases hi : kvs[i]? with
  | none =>
    have hl := List.getElem?_eq_none_iff.mp hi
    by_cases hij : j = i
    · rw [if_pos hij, if_neg (by omega)]
      rfl
    · rw [if_neg hij]
      rfl
  | some p =>
    have hp : (kvs.map (·.1))[i]? = some p.1 := by rw [List.getElem?_map, hi]; rfl
    rw [e, List.getElem?_map] at hp
    have hil := (List.getElem?_eq_some_iff.mp hi).1
    by_cases hij : j = i
    · subst hij
      rw [h] at hp
      have e1 : p.1 = Sum.inr z := (Option.some.inj hp).symm
      rw [if_pos rfl, if_pos hil]
      show some (if p.1 = Sum.inr z then (p.1, v) else p) = _
      rw [if_pos e1, e1]
    · rw [if_neg hij]
      cases hn : ns[i]? with
      | none =>
        rw [hn] at hp
        cases hp
      | some n =>
        rw [hn] at hp
        have e1 : Sum.inr n = p.1 := Option.some.inj hp
        have hne : ¬ p.1 = Sum.inr z := fun y => by
          have hnz : n = z := Sum.inr.inj (e1.trans y)
          rw [hnz] at hn
          exact hij ((List.getElem?_inj (List.getElem?_eq_some_iff.mp h).1 nd).mp (h.trans hn.symm))
        show some (if p.1 = Sum.inr z then (p.1, v) else p) = some p
        rw [if_neg hne]
theorem lsa_set {α : Type} {R : Hp → V → α → Prop} {v : V} {x : α} : ∀ {vs : List V} {xs : List α} {j : Nat}, LsA R H vs xs → R H v x → LsA R H (vs.set j v) (xs.set j x)
  | [], [], _, _, _ => True.intro
  | _ :: _, _ :: _, 0, h, hv => ⟨hv, h.2⟩
  | _ :: _, _ :: _, j + 1, h, hv => ⟨h.1, lsa_set (j := j) h.2 hv⟩
  | [], _ :: _, _, h, _ => h.elim
  | _ :: _, [], _, h, _ => h.elim
theorem Tab.set {j : Nat} {v : V} {k : Int} (h : Tab CD C H kvs ns ks) (hj : ns[j]? = some z) (hv : DkAt CD C H v k) : Tab CD C H (putK kvs (.inr z) v) ns (ks.set j k) := by
  rw [putK_at h.keys h.nd hj]
  refine ⟨?_, ?_, h.nd, h.nm⟩
  · rw [List.map_set, h.keys]
    refine List.ext_getElem? fun i => ?_
    rw [List.getElem?_set]
    by_cases hij : j = i
    · subst hij
      rw [if_pos rfl, if_pos (by rw [List.length_map]; exact (List.getElem?_eq_some_iff.mp hj).1), List.getElem?_map, hj]
      rfl
    · rw [if_neg hij]
  · rw [List.map_set]
    exact lsa_set h.vals hv
theorem Tab.new {v : V} {k : Int} (h : Tab CD C H kvs ns ks) (hz : z ∉ ns) (hn : Good z) (hv : DkAt CD C H v k) : Tab CD C H (putK kvs (.inr z) v) (ns ++ [z]) (ks ++ [k]) := by
  rw [putK_new v (valV_no h.keys hz)]
  refine ⟨?_, ?_, ?_, fun y hy => ?_⟩
  · rw [List.map_append, List.map_append, h.keys]
    rfl
  · rw [List.map_append]
    exact h.vals.snoc hv
  · rw [List.nodup_append]
    refine ⟨h.nd, by simp, fun a ha b hb e => ?_⟩
    rw [List.mem_singleton.mp hb] at e
    rw [e] at ha
    exact hz ha
  · rcases List.mem_append.mp hy with hy | hy
    · exact h.nm y hy
    · rw [List.mem_singleton.mp hy]
      exact hn
theorem putK_len (z : Str) (v : V) (h : Tab CD C H kvs ns ks) : (putK kvs (.inr z) v).length = if z ∈ ns then ns.length else ns.length + 1 := by
  by_cases hz : z ∈ ns
  · obtain ⟨j, hj⟩ := List.mem_iff_getElem?.mp hz
    rw [if_pos hz, putK_at h.keys h.nd hj, List.length_set, h.l1]
  · rw [if_neg hz, putK_new v (valV_no h.keys hz), List.length_append, h.l1]
    rfl
end
end Fs

set_option Elab.async false
set_option linter.all false
set_option maxRecDepth 100000
set_option maxHeartbeats 8000000
/-! what the laws of books share -/
namespace Fs
open PySem L2 Evl FsE FsC FsR FsA FsD FsU FsK FsT
theorem takes0 {X : Cx} : Takes X (fun _ _ _ _ => False) := fun _ _ x => by
  obtain ⟨_, _, _, _, _, _, _, _, _, _, _, _, _, _, _, _, z⟩ := x
  exact z.elim
theorem pe_cx0 {X : Cx} {CX : CXT} {k j : Nat} {x : Str} {sp : Sp} {E : XK} {p pos : Pos} (c : CalX X.prog X.w X.K X.mg X.base CX k x sp) (hr : Room j X.A) (hk : k ≤ j) (hg : Gl X x) (hx : Passes CX X E)
    (hdb : (x == ("__debug__" : Str)) = false := by decide) : PE X (.Call (.Name x p) [] [] pos) (tCall sp [] E tNil) := by
  obtain ⟨f, fd, ps, F, hm, kp, b⟩ := c.ex
  exact pe_call0 F (hr.mono hk) hg hm kp b .nil hx hdb
section
variable {σ : L2.St} {H : Hp} {te ta tb : TE} {tz : TS} {D : Ends} {K : PySem.W.Frag} {E : XK}
theorem rv_neD7 {x y : V} {d : PyData} (hx : ∀ H1, Ex H H1 → Dp K H1 x d) (hy : ∀ H1, Ex H H1 → Dp K H1 y d) (hs : SeqAt.shaped d = true) : RV (rNeD K) x y H (.bl false) := fun H1 e Q q => ⟨d, d, hx H1 e, hy H1 e, hs, hs, by rw [SeqAt.eqv_refl d (SeqAt.canLay_of_shaped hs)]; exact q H1 (Ex.refl H1)⟩
theorem rv_eqD7 {x y : V} {d : PyData} (hx : ∀ H1, Ex H H1 → Dp K H1 x d) (hy : ∀ H1, Ex H H1 → Dp K H1 y d) (hs : SeqAt.shaped d = true) : RV (rEqD K) x y H (.bl true) := fun H1 e Q q => ⟨d, d, hx H1 e, hy H1 e, hs, hs, by rw [SeqAt.eqv_refl d (SeqAt.canLay_of_shaped hs)]; exact q H1 (Ex.refl H1)⟩
/-- lists of texts -/
theorem dp_strs {H : Hp} {l : Addr} {ns : List Str} (h : SqL K H l (ns.map V.str)) : Dp K H (.ref l) (.list (ns.map PyData.str)) := by
  refine .lst h ?_
  have g : ∀ ms : List Str, DpAll K H (ms.map V.str) (ms.map PyData.str) := fun ms => by
    induction ms with
    | nil => exact .nil
    | cons m ms ih => exact .cons (.str m) ih
  exact g ns
theorem sh_strs {ns : List Str} (h : ∀ z ∈ ns, PyData.strOk z = true) : SeqAt.shaped (.list (ns.map PyData.str)) = true := by
  have g : ∀ ms : List Str, (∀ z ∈ ms, PyData.strOk z = true) → PyData.canLayAll0 (ms.map PyData.str) = true ∧ PyData.depthAll (ms.map PyData.str) = 0 := fun ms => by
    induction ms with
    | nil => exact fun _ => ⟨by simp [PyData.canLayAll0], by simp [PyData.depthAll]⟩
    | cons m ms ih =>
      intro hm
      obtain ⟨h1, h2⟩ := ih fun z hz => hm z (List.mem_cons_of_mem _ hz)
      exact ⟨by simp [PyData.canLayAll0, PyData.canLay0, h1, hm m (List.mem_cons_self ..)], by simp [PyData.depthAll, PyData.depth, h2]⟩
  simp [SeqAt.shaped, PyData.canLay0, PyData.depth, (g ns h).1, (g ns h).2]
theorem ev_lenBk {CK : Addr} {r : Addr} {kvs : List (Key × V)} (h : Ev te σ H (.ref r)) (hr : BkAt CK H r kvs) (hz : kvs.length ≤ 1000) : Ev (tCB (rLenO CK (spBkLen CK) E) (tCons te tNil)) σ H (.int (kvs.length : Int)) := fun H1 e Q q =>
  h H1 e _ fun H2 e2 => by
    have r3 := hr.ex (e.trans e2)
    obtain ⟨dx, t, h1, h2⟩ := id r3
    exact ⟨r, dx, _, rfl, h1, r, kvs, rfl, r3, fun H4 e4 => ⟨kvs.length, rfl, by omega, q H4 (e2.trans e4)⟩⟩
theorem rv_inBk {CK : Addr} {a : Addr} {z : Str} {kvs : List (Key × V)} {neg : Bool} (h : BkAt CK H a kvs) : RV (rInO CK (spBkIn CK) E neg) (.str z) (.ref a) H (.bl (if neg then !(valV kvs (.inr z)).isSome else (valV kvs (.inr z)).isSome)) := fun H1 e Q q => by
  have r3 := h.ex e
  obtain ⟨dx, t, h1, h2⟩ := id r3
  exact ⟨a, dx, _, rfl, h1, a, z, kvs, rfl, r3, fun H4 e4 => ⟨_, rfl, q H4 e4⟩⟩
/-- xs.index(z) -/
theorem ev_index {l : Addr} {ns : List Str} {z : Str} {j : Nat} (ha : Ev ta σ H (.ref l)) (hb : Ev tb σ H (.str z)) (hl : H l = some (.lst (ns.map V.str))) (nd : ns.Nodup) (hj : ns[j]? = some z) : Ev (tBM K "list" (rIndex K) ta (tCons tb tNil)) σ H (.int (j : Int)) := fun H1 e Q q =>
  ha H1 e _ fun H2 e2 => ⟨.inl ⟨rfl, _, sq_of ((e.trans e2) _ _ hl)⟩, hb H2 (e.trans e2) _ fun H3 e3 => by
    refine ⟨l, ns.map V.str, .str z, j, .str z, rfl, rfl, sq_of (((e.trans e2).trans e3) _ _ hl), rfl, flat_ns, by rw [List.getElem?_map, hj]; rfl, by show (z == z) = true; exact beq_self_eq_true z, fun m y hm hy => ?_, q H3 (e2.trans e3)⟩
    rw [List.getElem?_map] at hy
    cases hn : ns[m]? with
    | none =>
      rw [hn] at hy
      cases hy
    | some n =>
      rw [hn] at hy
      cases hy
      show (n == z) = false
      refine beq_eq_false_iff_ne.mpr fun y => ?_
      rw [y] at hn
      have := (List.getElem?_inj (List.getElem?_eq_some_iff.mp hn).1 nd).mp (hn.trans hj.symm)
      omega⟩
end
section
variable {σ : L2.St} {H : Hp} {te ta tb : TE} {tz : TS} {D : Ends} {K : PySem.W.Frag} {E : L2.St → XK} {CK CD C a nl : Addr} {kvs : List (Key × V)} {ns : List Str} {ks : List Int} {z : Str}
theorem ev_lenA {l : Addr} {xs : List V} (h : Ev ta σ H (.ref l)) (hl : SqA K H l xs) : Ev (tCB (fun xs H Q => ∃ p ys, xs = [V.ref p] ∧ (SqL K H p ys ∨ SqT K H p ys) ∧ Q (.int ys.length) H) (tCons ta tNil)) σ H (.int (xs.length : Int)) := fun H1 e Q q =>
  h H1 e _ fun H2 e2 => ⟨l, xs, rfl, (hl.ex (e.trans e2)).elim .inl fun z => .inr (st_of z), q H2 e2⟩
theorem s_asgS {i : Nat} {Pv : V → Hp → Prop} (h : EvS te σ H Pv) (k : ∀ v H1, Ex H H1 → Pv v H1 → D.nx (σ.set i (some v)) H1) : tAsg te (gName i) D σ H := h H (Ex.refl H) _ fun v H1 e1 hv => k v H1 e1 hv
theorem bk_nomet {d : Addr} : List.lookup ("names" : Str) [(("by_name" : Str), V.ref d)] = none := by
  rw [List.lookup_cons, show (("names" : Str) == "by_name") = false from by decide +kernel]
  rfl
/-- book.names() != sorted(names) -/
theorem ev_nmsNe {i0 i1 : Nat} (s0 : σ[i0]? = some (some (.ref a))) (s1 : σ[i1]? = some (some (.ref nl))) (bk : BkAt CK H a kvs) (tab : Tab CD C H kvs ns ks) (hnl : H nl = some (.lst (ns.map V.str))) (h64 : ns.length < 64) (hok : ∀ z ∈ ns, PyData.strOk z = true) :
    Ev (tOp (rNeD K) (tMeth CK "names" (spBkNames CK) [] E0 (tVar i0) tNil) (tCB (rSortedS K) (tCons (tVar i1) tNil))) σ H (.bl false) := fun H1 e1 Q q => by
  have bk1 := bk.ex e1
  obtain ⟨dx, d, h1, h2⟩ := id bk1
  refine ⟨_, s0, a, dx, _, rfl, h1, bk_nomet, a, kvs, ns, rfl, bk1, tab.keys, h64, fun ys hp hs p H2 hn e2 h2' => ?_⟩
  refine ⟨_, s1, nl, ns, rfl, sq_of (e2 _ _ (e1 _ _ hnl)), h64, fun ys' p' hp' hs' hn' => ?_⟩
  obtain rfl : ys = ys' := sorted_uniq hs hs' hp hp'
  have hsh : SeqAt.shaped (.list (ys.map PyData.str)) = true := sh_strs fun z hz => hok z (hp.subset hz)
  refine ⟨_, _, dp_strs (sq_of ((Ex.new hn') _ _ h2')), dp_strs (sq_of upd_same), hsh, hsh, ?_⟩
  rw [SeqAt.eqv_refl _ (SeqAt.canLay_of_shaped hsh)]
  exact q _ (e2.trans (Ex.new hn'))
/-- data that are told by their items, whatever follows -/
def EvDt (K : PySem.W.Frag) (te : TE) (σ : L2.St) (H : Hp) (d : PyData) : Prop := EvS te σ H fun v H' => ∀ H2, Ex H' H2 → Dp K H2 v d
theorem ev_neDt {d : PyData} (ha : EvDt K ta σ H d) (hb : EvDt K tb σ H d) (hs : SeqAt.shaped d = true) : Ev (tOp (rNeD K) ta tb) σ H (.bl false) := fun H1 e Q q =>
  ha H1 e _ fun x H2 e2 hx => hb H2 (e.trans e2) _ fun y H3 e3 hy => ⟨d, d, hx H3 e3, hy H3 (Ex.refl H3), hs, hs, by rw [SeqAt.eqv_refl d (SeqAt.canLay_of_shaped hs)]; exact q H3 (e2.trans e3)⟩
theorem ev_eqDt {d : PyData} (ha : EvDt K ta σ H d) (hb : EvDt K tb σ H d) (hs : SeqAt.shaped d = true) : Ev (tOp (rEqD K) ta tb) σ H (.bl true) := fun H1 e Q q =>
  ha H1 e _ fun x H2 e2 hx => hb H2 (e.trans e2) _ fun y H3 e3 hy => ⟨d, d, hx H3 e3, hy H3 (Ex.refl H3), hs, hs, by rw [SeqAt.eqv_refl d (SeqAt.canLay_of_shaped hs)]; exact q H3 (e2.trans e3)⟩
theorem edt_v {v : V} {d : PyData} (h : Ev te σ H v) (hd : ∀ H1, Ex H H1 → Dp K H1 v d) : EvDt K te σ H d := fun H1 e Q q => h H1 e _ fun H2 e2 => q v H2 e2 fun H3 e3 => hd H3 ((e.trans e2).trans e3)
theorem edt_two {x y : V} {d1 d2 : PyData} (hx : Ev ta σ H x) (hy : Ev tb σ H y) (h1 : ∀ H1, Dp K H1 x d1) (h2 : ∀ H1, Dp K H1 y d2) : EvDt K (tTup (tCons ta (tCons tb tNil))) σ H (.tuple [d1, d2]) := fun H1 e Q q =>
  hx H1 e _ fun H2 e2 => hy H2 (e.trans e2) _ fun H3 e3 => ⟨by show 2 ≤ sizeLine; decide, fun t ht => q (.ref t) _ ((e2.trans e3).trans (Ex.new ht)) fun H4 e4 => .tup (st_of (e4 _ _ upd_same)) (.cons (h1 H4) (.cons (h2 H4) .nil))⟩
end
/-- Book() -/
structure MkB (P : Program) (w : World) (K : PySem.W.Frag) (mg : Str → Option Value) (base : Heap) (CK t0 : Addr) : Prop where
  ex : ∃ (f : Addr) (fd : FuncData), Mk K CK f ∧ FnOk P w K mg base CX0 1 f fd ["self", "given"] (spBkInit K CK) ∧ mg "Book" = some (.ref CK) ∧ Binds K fd ["self", "given"] [.ref t0]
  t0 : Tup0 K t0
theorem pe_bk {X : Cx} {CK t0 : Addr} {j : Nat} {E : XK} {p pos : Pos} (c : MkB X.prog X.w X.K X.mg X.base CK t0) (hr : Room j X.A) (hk : 2 ≤ j) (hg : Gl X "Book") (hx : Passes CX0 X E) :
    PE X (.Call (.Name "Book" p) [] [] pos) (tMake CK (spBkInit X.K CK) [.ref t0] E tNil) := by
  obtain ⟨f, fd, M, F, hm, b⟩ := c.ex
  exact pe_make0 M F (hr.mono hk) hg hm b (.cons rfl .nil) hx
theorem op_lblB {l : Int} (h0 : 0 ≤ l) (h1 : l ≤ 4000) : operandV (.int l) = true := by
  have e1 : (decide (-(10 ^ 30) < l)) = true := decide_eq_true (by have := (by decide : (0 : Int) < 10 ^ 30); omega)
  have e2 : (decide (l < 10 ^ 30)) = true := decide_eq_true (by have := (by decide : (4000 : Int) < 10 ^ 30); omega)
  show ((decide (-(10 ^ 30) < l) && decide (l < 10 ^ 30)) || nameV (.int l)) = true
  rw [e1, e2]
  rfl
theorem bad_f {l : Int} (h0 : 0 ≤ l) (h1 : l ≤ 4000) : badCall "f" [.int l] = none := by
  unfold badCall opsOk
  rw [if_pos (show nameS "f" = true from by decide +kernel)]
  have e : (([Opd.int l].map fun o => operandV o.v).all id) = true := by
    show (operandV (.int l) && true) = true
    rw [op_lblB h0 h1]
    rfl
  rw [e, if_pos (by rfl)]
  unfold badInit
  rw [if_pos (by show (Pr.call "f" [.int l]).depth ≤ 20; unfold Pr.depth; decide), if_pos (by show (Pr.call "f" [.int l]).size ≤ 400; unfold Pr.size; decide)]
theorem ExB.exC {CK X b : Addr} {H H' : Hp} {kvs : List (Key × V)} (h : ExB b H H') (hb : BkAt CK H b kvs) (hne : CK ≠ X) : ExC X H H' := by
  obtain ⟨dx, d, h1, h2⟩ := hb
  refine ⟨fun a dy fs ha => h a _ (fun z => ?_) ha, fun a xs ha => h a _ (fun z => ?_) ha⟩
  · rw [z, h1] at ha
    cases ha
    exact hne rfl
  · rw [z, h1] at ha
    cases ha
theorem ExB.lst {CK b l : Addr} {H H' : Hp} {kvs : List (Key × V)} {xs : List V} (h : ExB b H H') (hb : BkAt CK H b kvs) (hl : H l = some (.lst xs)) : H' l = some (.lst xs) := by
  obtain ⟨dx, d, h1, h2⟩ := hb
  refine h l _ (fun z => ?_) hl
  rw [z, h1] at hl
  cases hl
section
variable {σ : L2.St} {H : Hp} {t t1 t2 ta tb te tv : TE} {tu tw tz : TS} {tt : TT} {D : Ends} {K : PySem.W.Frag} {E : XK} {CK CD C CB b nl ml rl : Addr} {kvs : List (Key × V)} {ns : List Str} {ks : List Int} {z : Str} {sp : Sp} {Q : VK}
theorem s_c2 {x : V} {q : List V → Hp → Prop} (h : t σ H fun y H1 => q [x, y] H1) : tCons (tC x) (tCons t tNil) σ H q := h
theorem s_mk2 (h : t1 σ H fun x H1 => t2 σ H1 fun y H2 => ∀ a dx, H2 a = none → H2 dx = none → dx ≠ a → sp [.ref a, x, y] (upd (upd H2 dx (.own a)) a (.ins C dx [])) (fun v H3 => v = .non ∧ Q (.ref a) H3) E) : tMake C sp [] E (tCons t1 (tCons t2 tNil)) σ H Q := h
theorem own_ex {a dx : Addr} {H2 : Hp} {o : HO} (hx : H2 a = none) (hdx : H2 dx = none) : Ex H2 (upd (upd H2 dx (.own a)) a o) := by
  intro c o hc
  rw [upd_ne (ne_of_none hc hx), upd_ne (ne_of_none hc hdx)]
  exact hc
end
theorem row_getB {row : List Int} {i : Nat} (hrow : RowOk row) (h : i < row.length) : ∃ v, row[i]? = some v ∧ 0 ≤ v ∧ v < 1000 :=
  ⟨row[i], List.getElem?_eq_getElem h, hrow _ (List.getElem_mem h)⟩
theorem str_at {ns : List Str} {i : Int} (h0 : 0 ≤ i) (h1 : i < (ns.length : Int)) : ∃ z, z ∈ ns ∧ atI (ns.map V.str) i = some (.str z) := by
  obtain ⟨j, rfl⟩ : ∃ j : Nat, i = (j : Int) := ⟨i.toNat, by omega⟩
  have hj : j < ns.length := by omega
  exact ⟨ns[j], List.getElem_mem hj, atI_nat (by rw [List.getElem?_map, List.getElem?_eq_getElem hj]; rfl)⟩
def spLaw (K : PySem.W.Frag) : Sp := fun vs H Q _ => ∃ (a : Addr) (ns : List Int), vs = [.ref a] ∧ SqL K H a (ns.map V.int) ∧ ∀ H', Q (.bl true) H'
/-- the errors' classes, as the law asks them -/
structure ErrT (K : PySem.W.Frag) (mg : Str → Option Value) (CB CN : Addr) : Prop where
  gB : mg "BadTerm" = some (.ref CB)
  gN : mg "Clash" = some (.ref CN)
  xB : XfC K CB
  xN : XfC K CN
  nB : PySem.W.findIn K (.ref CB) "field" = some none
  nN : PySem.W.findIn K (.ref CN) "name" = some none
  tB : PySem.W.exmOne K (.ref CB) (.ref CB) = some true
  tN : PySem.W.exmOne K (.ref CN) (.ref CN) = some true
  tX : PySem.W.exmOne K (.ref CB) (.ref CN) = some false
end Fs

set_option Elab.async false
set_option linter.all false
set_option maxRecDepth 100000
set_option maxHeartbeats 2000000
/-! min(xs) of a list of texts -/
namespace FsR
open PySem PySem.Spec PyProof.Rows L2 FsU Evl
theorem readsAll_strs {h : Heap} : ∀ {us : List Value} {xs : List Str}, Vals (xs.map V.str) us → ∃ as, ReadsAll h us (xs.map PySem.W.Datum.toD) as
  | us, [], r => by
    cases r
    exact ⟨[], .nil⟩
  | us, x :: xs, r => by
    cases r with
    | cons r1 r2 =>
      obtain ⟨t, rfl⟩ := r1
      obtain ⟨as, z⟩ := readsAll_strs (h := h) r2
      exact ⟨[] ++ as, .cons (.str x t) z⟩
theorem minOf_ok : ∀ (xs : List Str) (x : Str), PySem.W.minOf x xs ∈ x :: xs ∧ ∀ y ∈ x :: xs, leS (PySem.W.minOf x xs) y
  | [], x => ⟨List.mem_singleton.mpr rfl, fun y hy => by
    rw [List.mem_singleton.mp hy]
    exact leS_refl x⟩
  | z :: xs, x => by
    have step : PySem.W.minOf x (z :: xs) = PySem.W.minOf (if PySem.W.DatumOrd.lt z x = true then z else x) xs := rfl
    obtain ⟨h1, h2⟩ := minOf_ok xs (if PySem.W.DatumOrd.lt z x = true then z else x)
    rw [step]
    have hs := h2 _ (List.mem_cons_self ..)
    have lt_iff : (PySem.W.DatumOrd.lt z x = true) ↔ z.cps.toList < x.cps.toList := by
      show decide (z.cps.toList < x.cps.toList) = true ↔ _
      rw [decide_eq_true_eq]
    by_cases h : PySem.W.DatumOrd.lt z x = true
    · rw [if_pos h] at h1 h2 hs ⊢
      have zx : leS z x := leS_iff.mpr (List.le_of_lt (lt_iff.mp h))
      refine ⟨List.mem_cons_of_mem _ h1, fun y hy => ?_⟩
      rcases List.mem_cons.mp hy with rfl | hy
      · exact leS_trans hs zx
      · exact h2 y hy
    · rw [if_neg h] at h1 h2 hs ⊢
      have xz : leS x z := leS_iff.mpr (List.not_lt.mp (fun y => h (lt_iff.mpr y)))
      refine ⟨?_, fun y hy => ?_⟩
      · rcases List.mem_cons.mp h1 with e | h1
        · rw [e]
          exact List.mem_cons_self ..
        · exact List.mem_cons_of_mem _ (List.mem_cons_of_mem _ h1)
      · rcases List.mem_cons.mp hy with rfl | hy
        · exact hs
        · rcases List.mem_cons.mp hy with rfl | hy
          · exact leS_trans hs xz
          · exact h2 y (List.mem_cons_of_mem _ hy)
def Least (m : Str) (xs : List Str) : Prop := m ∈ xs ∧ ∀ y ∈ xs, leS m y
theorem Least.uniq {m n : Str} {xs ys : List Str} (h : Least m xs) (g : Least n ys) (e : ∀ z, z ∈ xs ↔ z ∈ ys) : m = n :=
  leS_anti (h.2 n ((e n).mpr g.1)) (g.2 m ((e m).mp h.1))
/-- min(xs) -/
def rMinS (K : PySem.W.Frag) : List V → Hp → VK → Prop := fun vs H Q => ∃ (a : Addr) (xs : List Str), vs = [V.ref a] ∧ SqL K H a (xs.map V.str) ∧ xs ≠ [] ∧ ∀ m, Least m xs → Q (.str m) H
theorem cr_minS {X : Cx} (hc : X.calm = true) (hu : X.A.units + 1 + 1 < cLine) : CallR X (.builtin "min") (rMinS X.K) := by
  intro pins s σ H xs us Q I r h
  obtain ⟨a, ns, rfl, hs, hne, q⟩ := h
  obtain ⟨its, rv, hl, _⟩ := I.list hs
  rw [Vals.ref1 r]
  cases ns with
  | nil => exact absurd rfl hne
  | cons x xs =>
    show wpAny (model X.prog X.w) X.A (call (.builtin "min") [.ref a]) _ _ _
    refine PySem.W.min_list_datum (α := Str) (x := x) (xs := xs) (I.ok.hd hc) hl.isList (readsAll_strs rv) (by show X.A.units + 1 + 0 < cLine; omega) (fun i v h' tk hi hv hk => ?_)
    obtain ⟨as, z⟩ := hv
    have z' : ∃ t', v = Value.str (PySem.W.minOf x xs) t' := by
      have z2 : Reads h' v (.str (PySem.W.minOf x xs)) as := z
      cases z2 with
      | str _ t' => exact ⟨t', rfl⟩
    obtain ⟨t', rfl⟩ := z'
    exact ⟨.str (PySem.W.minOf x xs), H, I.kept hk, ⟨t', rfl⟩, q _ (minOf_ok xs x)⟩
section
variable {K : PySem.W.Frag} {σ : L2.St} {H : Hp} {ta : TE}
theorem ev_minS {a : Addr} {xs : List Str} {m : Str} (h : Ev ta σ H (.ref a)) (hx : H a = some (.lst (xs.map V.str))) (hm : Least m xs) : Ev (tCB (rMinS K) (tCons ta tNil)) σ H (.str m) := fun H1 e Q q =>
  h H1 e _ fun H2 e2 => ⟨a, xs, rfl, sq_of ((e.trans e2) _ _ hx), (fun z => by rw [z] at hm; exact nomatch hm.1), fun m' hm' => by
    rw [hm'.uniq hm (fun _ => Iff.rfl)]
    exact q H2 e2⟩
end
end FsR

set_option Elab.async false
set_option linter.all false
set_option maxRecDepth 100000
set_option maxHeartbeats 4000000
/-! tables joined: what is due -/
namespace Fs
open PySem L2 Evl FsE FsC FsR FsA FsD FsU FsK FsT
/-- the mark of a name -/
def mkOf (ns : List Str) (ks : List Int) (z : Str) : Int := (ks[(ns.findIdx fun n => decide (n = z))]?).getD 0
theorem find_at : ∀ {ns : List Str} {j : Nat} {z : Str}, ns.Nodup → ns[j]? = some z → (ns.findIdx fun n => decide (n = z)) = j
  | [], _, _, _, h => by simp at h
  | n :: ns, 0, _, _, h => by
    cases h
    rw [List.findIdx_cons, decide_eq_true rfl]
    rfl
  | n :: ns, j + 1, z, nd, h => by
    have hne : ¬ n = z := fun y => by
      rw [y] at nd
      exact (List.nodup_cons.mp nd).1 (List.mem_of_getElem? (show ns[j]? = some z from h))
    rw [List.findIdx_cons, decide_eq_false hne]
    show _ + 1 = j + 1
    rw [find_at (List.nodup_cons.mp nd).2 (show ns[j]? = some z from h)]
theorem mkOf_at {ns : List Str} {ks : List Int} {j : Nat} {z : Str} {k : Int} (nd : ns.Nodup) (h : ns[j]? = some z) (hk : ks[j]? = some k) : mkOf ns ks z = k := by
  unfold mkOf
  rw [find_at nd h, hk]
  rfl
theorem mkOf_new {ns : List Str} {ks : List Int} {z z0 : Str} {q : Int} (hz : z ∈ ns) (hl : ks.length = ns.length) : mkOf (ns ++ [z0]) (ks ++ [q]) z = mkOf ns ks z := by
  have hi : (ns.findIdx fun n => decide (n = z)) < ns.length := List.findIdx_lt_length_of_exists ⟨z, hz, decide_eq_true rfl⟩
  unfold mkOf
  rw [List.findIdx_append, if_pos hi, List.getElem?_append_left (by omega)]
/-- the joined table -/
def jn : List Str → List Int → List Str → List Int → List Str × List Int
  | ns, ks, z :: ms, q :: qs => if z ∈ ns then jn ns ks ms qs else jn (ns ++ [z]) (ks ++ [q]) ms qs
  | ns, ks, [], _ => (ns, ks)
  | ns, ks, _ :: _, [] => (ns, ks)
/-- the names that are defined differently -/
def clR : List Str → List Int → List Str → List Int → List Str
  | ns, ks, z :: ms, q :: qs => if z ∈ ns then (if mkOf ns ks z = q then clR ns ks ms qs else z :: clR ns ks ms qs) else clR (ns ++ [z]) (ks ++ [q]) ms qs
  | _, _, [], _ => []
  | _, _, _ :: _, [] => []
theorem mem_clR : ∀ {ms : List Str} {qs : List Int} {ns : List Str} {ks : List Int} {z : Str}, ms.Nodup → qs.length = ms.length → ks.length = ns.length → (z ∈ clR ns ks ms qs ↔ z ∈ ns ∧ z ∈ ms ∧ mkOf ns ks z ≠ mkOf ms qs z)
  | [], qs, ns, ks, z, _, _, _ => by
    unfold clR
    exact ⟨(fun h => nomatch h), (fun h => nomatch h.2.1)⟩
  | _ :: _, [], _, _, _, _, h, _ => by simp at h
  | y :: ms, q :: qs, ns, ks, z, nd, hl, hk => by
    obtain ⟨nd1, nd2⟩ := List.nodup_cons.mp nd
    have hl' : qs.length = ms.length := by simpa using hl
    have m0 : mkOf (y :: ms) (q :: qs) y = q := mkOf_at (j := 0) nd rfl rfl
    have mT : z ∈ ms → mkOf (y :: ms) (q :: qs) z = mkOf ms qs z := fun hz => by
      have hne : ¬ y = z := fun e => nd1 (e ▸ hz)
      unfold mkOf
      rw [List.findIdx_cons, decide_eq_false hne]
      rfl
    unfold clR
    by_cases hy : y ∈ ns
    · rw [if_pos hy]
      have ih := mem_clR (ns := ns) (ks := ks) (z := z) nd2 hl' hk
      by_cases hm : mkOf ns ks y = q
      · rw [if_pos hm, ih]
        refine ⟨fun ⟨h1, h2, h3⟩ => ⟨h1, List.mem_cons_of_mem _ h2, by rw [mT h2]; exact h3⟩, fun ⟨h1, h2, h3⟩ => ?_⟩
        rcases List.mem_cons.mp h2 with rfl | h2
        · rw [m0] at h3
          exact absurd hm h3
        · rw [mT h2] at h3
          exact ⟨h1, h2, h3⟩
      · rw [if_neg hm, List.mem_cons, ih]
        refine ⟨fun h => ?_, fun ⟨h1, h2, h3⟩ => ?_⟩
        · rcases h with rfl | ⟨h1, h2, h3⟩
          · exact ⟨hy, List.mem_cons_self .., by rw [m0]; exact hm⟩
          · exact ⟨h1, List.mem_cons_of_mem _ h2, by rw [mT h2]; exact h3⟩
        · rcases List.mem_cons.mp h2 with rfl | h2
          · exact .inl rfl
          · rw [mT h2] at h3
            exact .inr ⟨h1, h2, h3⟩
    · rw [if_neg hy]
      have ih := mem_clR (ns := ns ++ [y]) (ks := ks ++ [q]) (z := z) nd2 hl' (by rw [List.length_append, List.length_append, hk]; rfl)
      rw [ih]
      refine ⟨fun ⟨h1, h2, h3⟩ => ?_, fun ⟨h1, h2, h3⟩ => ?_⟩
      · have hne : z ≠ y := fun e => nd1 (e ▸ h2)
        have h1 : z ∈ ns := by
          rcases List.mem_append.mp h1 with h1 | h1
          · exact h1
          · exact absurd (List.mem_singleton.mp h1) hne
        rw [mkOf_new h1 hk] at h3
        exact ⟨h1, List.mem_cons_of_mem _ h2, by rw [mT h2]; exact h3⟩
      · have h2 : z ∈ ms := by
          rcases List.mem_cons.mp h2 with rfl | h2
          · exact absurd h1 hy
          · exact h2
        rw [mT h2] at h3
        exact ⟨List.mem_append_left _ h1, h2, by rw [mkOf_new h1 hk]; exact h3⟩
theorem jn_len : ∀ {ms : List Str} {qs : List Int} {ns : List Str} {ks : List Int}, (jn ns ks ms qs).1.length ≤ ns.length + ms.length
  | [], qs, ns, ks => by
    unfold jn
    exact Nat.le_refl _
  | _ :: _, [], _, _ => by
    unfold jn
    exact Nat.le_add_right _ _
  | y :: ms, q :: qs, ns, ks => by
    unfold jn
    by_cases hy : y ∈ ns
    · rw [if_pos hy]
      have := jn_len (ms := ms) (qs := qs) (ns := ns) (ks := ks)
      rw [List.length_cons]
      omega
    · rw [if_neg hy]
      have := jn_len (ms := ms) (qs := qs) (ns := ns ++ [y]) (ks := ks ++ [q])
      rw [List.length_append] at this
      rw [List.length_cons]
      have e : [y].length = 1 := rfl
      omega
section
variable {CD C : Addr} {H : Hp}
theorem set_self {α : Type} {j : Nat} {x : α} : ∀ {xs : List α}, xs[j]? = some x → xs.set j x = xs := fun {xs} h => by
  refine List.ext_getElem? fun i => ?_
  rw [List.getElem?_set]
  by_cases e : j = i
  · subst e
    have := (List.getElem?_eq_some_iff.mp h).1
    rw [if_pos rfl, if_pos this, h]
  · rw [if_neg e]
theorem Tab.merge : ∀ {ms : List Str} {qs : List Int} {ws acc : List (Key × V)} {ns : List Str} {ks : List Int}, Tab CD C H acc ns ks → ws.map (·.1) = ms.map Sum.inr → LsA (DkAt CD C) H (ws.map (·.2)) qs → (∀ z ∈ ms, Good z) → clR ns ks ms qs = [] → Tab CD C H (mergeK acc ws) (jn ns ks ms qs).1 (jn ns ks ms qs).2
  | [], qs, [], acc, ns, ks, t, _, _, _, _ => by
    unfold jn
    exact t
  | [], _, _ :: _, _, _, _, _, e, _, _, _ => by simp at e
  | _ :: _, _, [], _, _, _, _, e, _, _, _ => by simp at e
  | _ :: _, [], _ :: _, _, _, _, _, _, h, _, _ => h.elim
  | y :: ms, q :: qs, p :: ws, acc, ns, ks, t, e, h, hg, hc => by
    injection e with e1 e2
    obtain ⟨h1, h2⟩ := h
    have e1 : p.1 = Sum.inr y := e1
    have em : mergeK acc (p :: ws) = mergeK (putK acc (.inr y) p.2) ws := by
      show mergeK (putK acc p.1 p.2) ws = _
      rw [e1]
    rw [em]
    unfold clR at hc
    unfold jn
    by_cases hy : y ∈ ns
    · rw [if_pos hy] at hc ⊢
      by_cases hm : mkOf ns ks y = q
      · rw [if_pos hm] at hc
        obtain ⟨j, v, k, hj, _, hk, _⟩ := t.get hy
        have hkq : k = q := by rw [← hm, mkOf_at t.nd hj hk]
        subst hkq
        have t2 := t.set hj h1
        rw [set_self hk] at t2
        exact t2.merge e2 h2 (fun z hz => hg z (List.mem_cons_of_mem _ hz)) hc
      · rw [if_neg hm] at hc
        exact nomatch hc
    · rw [if_neg hy] at hc ⊢
      exact (t.new hy (hg y (List.mem_cons_self ..)) h1).merge e2 h2 (fun z hz => hg z (List.mem_cons_of_mem _ hz)) hc
/-- a book of names and marks -/
def BT (CK CD C : Addr) (H : Hp) (a : Addr) (ns : List Str) (ks : List Int) : Prop := ∃ kvs, BkAt CK H a kvs ∧ Tab CD C H kvs ns ks
theorem BT.ex {CK CD C : Addr} {H H' : Hp} (e : Ex H H') {a : Addr} {ns : List Str} {ks : List Int} (h : BT CK CD C H a ns ks) : BT CK CD C H' a ns ks := by
  obtain ⟨kvs, h1, h2⟩ := h
  exact ⟨kvs, h1.ex e, h2.ex e⟩
/-- what joining gives -/
structure JOut (CB CN : Addr) (ns : List Str) (ks : List Int) (ms : List Str) (qs : List Int) (H : Hp) (E : XK) (G : Prop) : Prop where
  ok : clR ns ks ms qs = [] → (jn ns ks ms qs).1.length ≤ 12 → G
  big : clR ns ks ms qs = [] → 12 < (jn ns ks ms qs).1.length → Bad CB "definitions" H E
  bad : ∀ m, Least m (clR ns ks ms qs) → BadF CN "name" m H E
theorem JOut.ex {CB CN : Addr} {ns : List Str} {ks : List Int} {ms : List Str} {qs : List Int} {H H' : Hp} {E : XK} {G G' : Prop} (e : Ex H H') (h : JOut CB CN ns ks ms qs H E G) (g : G → G') : JOut CB CN ns ks ms qs H' E G' := ⟨fun a b => g (h.ok a b), fun a b => (h.big a b).ex e, fun m hm => (h.bad m hm).ex e⟩
end
end Fs

set_option Elab.async false
set_option linter.all false
set_option maxRecDepth 100000
set_option maxHeartbeats 4000000
/-! == of tuples and of own instances, whatever the answer. -/
namespace FsQ
open PySem PySem.SeqAt
open AutoSeq1 (wpAny_loadPart')
open MeetsSeq MeetsSeq2 MeetsSeq3 SeqRoads2
open GQ
section
variable {prog : Program} {w : World} {A : Around} {R : Result → Shared → Prop}
theorem all_upto {e : Nat → Bool} {m : Nat} (h : ∀ j, j < m → e j = true) : (List.range m).all e = true := List.all_eq_true.mpr fun j hj => h j (List.mem_range.mp hj)
theorem not_all {e : Nat → Bool} {m i : Nat} (hi : i < m) (h : e i = false) : (List.range m).all e = false := by
  cases z : (List.range m).all e with
  | false => rfl
  | true =>
    have := List.all_eq_true.mp z i (List.mem_range.mpr hi)
    rw [h] at this
    cases this
/-- the walk over two tuples, the answer of each pair told -/
theorem tuple_any (l b : Addr) (xs ys : Array Value) (n n2 : Nat) (dd dd2 : Option Addr) (sl sl2 : Array (Option Value)) (e : Nat → Bool) (I : Nat → Shared → Prop)
    (pair : ∀ i (h1 : i < xs.size) (h2 : i < ys.size) s, I i s → wpAny (model prog w) A.in1 (eqBool xs[i] ys[i]) (fun r s' => r = e i ∧ I (i + 1) s') (fun z s' => R (.error z) s') s)
    (ends : ∀ i s, I i s → R (.ok (.ret (.bool ((List.range (min xs.size ys.size)).all e && (xs.size == ys.size))))) s) {s : Shared} (ha : s.heap.get? l = some { cls := .type "tuple", dict := dd, data := .seq xs n, slots := sl }) (hb : s.heap.get? b = some { cls := .type "tuple", dict := dd2, data := .seq ys n2, slots := sl2 }) (h0 : I 0 s) :
    wpAny (model prog w) A.in1 (Builtin.«tuple.__eq__» ⟨[.ref l, .ref b], []⟩) (FinOf prog w A R) (fun z s' => R (.error z) s') s := by
  have sub := AutoSeq1.sub_tuple_tuple
  have len : (xs.toList.zip ys.toList).length = min xs.size ys.size := by simp
  have start := h0
  obtain ⟨hp, g, d, tk, os⟩ := s
  wp_walk using wpAny_loadPart' ha, wpAny_loadPart' hb, wpAny_forIn_list _ (fun left acc s' => acc.1 = none ∧ ∃ i, left = (xs.toList.zip ys.toList).drop i ∧ i ≤ min xs.size ys.size ∧ (∀ j, j < i → e j = true) ∧ I i s') _
  case h => exact ⟨rfl, 0, rfl, Nat.zero_le _, fun j hj => absurd hj (Nat.not_lt_zero j), start⟩
  case turn =>
    rintro ⟨u, v⟩ left acc s' ⟨_, i, hz, _, hall, hI⟩
    have hi : i < (xs.toList.zip ys.toList).length := Nat.lt_of_not_le fun z => by
      rw [List.drop_of_length_le z] at hz
      cases hz
    have him : i < min xs.size ys.size := len ▸ hi
    have h1 : i < xs.size := Nat.lt_of_lt_of_le him (Nat.min_le_left _ _)
    have h2 : i < ys.size := Nat.lt_of_lt_of_le him (Nat.min_le_right _ _)
    rw [List.drop_eq_getElem_cons hi] at hz
    injection hz with hp0 hleft
    obtain rfl : u = xs[i] := by have := congrArg Prod.fst hp0; simpa using this
    obtain rfl : v = ys[i] := by have := congrArg Prod.snd hp0; simpa using this
    refine wpAny_bind (wpAny_mono (pair i h1 h2 s' hI) (fun r s2 ⟨hr, hI2⟩ => ?_) fun _ _ z => z)
    subst hr
    cases he : e i with
    | true =>
      wp_walk
      refine ⟨rfl, i + 1, hleft, him, fun j hj => ?_, hI2⟩
      by_cases z : j = i
      · rw [z, he]
      · exact hall j (by omega)
    | false =>
      have out := ends (i + 1) s2 hI2
      rw [not_all him he, Bool.false_and] at out
      wp_walk
      exact out
  case fin =>
    rintro ⟨a1, a2⟩ s' ⟨ha1, i, hz, hi, hall, hI⟩
    simp only at ha1
    subst ha1
    have hge : min xs.size ys.size ≤ i := Nat.le_of_not_lt fun z => by
      rw [List.drop_eq_getElem_cons (len ▸ z)] at hz
      cases hz
    obtain rfl : i = min xs.size ys.size := by omega
    have out := ends _ s' hI
    rw [all_upto hall, Bool.true_and] at out
    wp_walk
    simpa [Builtin.Tuple.tupleCompareSizes] using out
end
section
variable {prog : Program} {w : World} {A : Around} {E : Value → Shared → Prop} {s : Shared}
theorem rc_tuple_any {l b : Addr} {xs ys : Array Value} {e : Nat → Bool} {Q : Value → Shared → Prop} (hu : A.units < cLine) (I : Nat → Shared → Prop) (hl : s.heap.IsTuple l xs) (hb : s.heap.IsTuple b ys)
    (pair : ∀ i (h1 : i < xs.size) (h2 : i < ys.size) s, I i s → wpAny (model prog w) A.in1 (eqBool xs[i] ys[i]) (fun r s' => r = e i ∧ I (i + 1) s') E s)
    (ends : ∀ i s, I i s → Q (.bool ((List.range (min xs.size ys.size)).all e && (xs.size == ys.size))) s) (h0 : I 0 s) : wpAny (model prog w) A (richCompare .Eq (.ref l) (.ref b)) Q E s := by
  obtain ⟨⟨c1, d1, t1, s1⟩, o1, k1, n1, z1⟩ := id hl
  obtain ⟨⟨c2, d2, t2, s2⟩, o2, k2, n2, z2⟩ := id hb
  simp only at k1 z1 k2 z2
  subst k1 z1 k2 z2
  refine wpAny_richCompare_same_room (op := .Eq) ⟨_, o1, rfl⟩ ⟨_, o2, rfl⟩ F.slot_tuple_eq (call_here F.slot_tuple_eq ⟨_, o1, rfl⟩ F.entry_tuple_eq (F.args_tuple_eq_2 _ _) ?_) hu
  exact tuple_any (R := wants (fun v s' => v ≠ .notImplemented ∧ Q v s') E) l b xs ys n1 n2 d1 d2 s1 s2 e I pair (fun i s' q => ⟨(fun z => nomatch z), ends i s' q⟩) o1 o2 h0
end
end FsQ
namespace FsQ
open PySem PySem.Spec PyProof.Rows L2
/-- how two values compare, by the abstract heap -/
abbrev Cmp := V → V → Bool → Hp → Prop
def MonB (D : Cmp) : Prop := ∀ x y b H H', Ext H H' → D x y b H → D x y b H'
def EqB (X : Cx) (n : Nat) (D : Cmp) : Prop := ∀ (A : Around) (pins : List (Addr × Obj)) (s : Shared) (σ : L2.St) (H : Hp) (x y : V) (u v : Value) (b : Bool), Sub X n A → Inv X pins σ H s → RelV x u → RelV y v → D x y b H →
  wpAny (model X.prog X.w) A (eqBool u v) (fun r s' => r = b ∧ ∃ H', Inv X pins σ H' s' ∧ Ext H H') X.xe s
def RcB (X : Cx) (n : Nat) (D : Cmp) : Prop := ∀ (A : Around) (pins : List (Addr × Obj)) (s : Shared) (σ : L2.St) (H : Hp) (x y : V) (u v : Value) (b : Bool), Sub X n A → Inv X pins σ H s → RelV x u → RelV y v → D x y b H →
  wpAny (model X.prog X.w) A (richCompare .Eq u v) (fun r s' => r = .bool b ∧ ∃ H', Inv X pins σ H' s' ∧ Ext H H') X.xe s
/-- pair by pair, as far as both reach -/
def ZipB (D : Cmp) : List V → List V → List Bool → Hp → Prop
  | x :: xs, y :: ys, b :: bs, H => D x y b H ∧ ZipB D xs ys bs H
  | [], _, [], _ => True
  | _ :: _, [], [], _ => True
  | _, _, _, _ => False
def CFlat : Cmp := fun x y b _ => flatV x = true ∧ flatV y = true ∧ eqV x y = b
def CTup (D : Cmp) : Cmp := fun x y b H => ∃ a c xs ys bs, x = .ref a ∧ y = .ref c ∧ H a = some (.tup xs) ∧ H c = some (.tup ys) ∧ ZipB D xs ys bs H ∧ b = (bs.all id && (xs.length == ys.length))
def CIns (C : Addr) (R : Addr → Addr → Bool → Hp → Prop) : Cmp := fun x y b H => ∃ a c dx dy fs gs, x = .ref a ∧ y = .ref c ∧ H a = some (.ins C dx fs) ∧ H c = some (.ins C dy gs) ∧ R a c b H
/-- what the own == promises -/
def spEqB (R : Addr → Addr → Bool → Hp → Prop) : Sp := fun vs H Q _ => ∃ a c b, vs = [.ref a, .ref c] ∧ R a c b H ∧ ∀ H', Ext H H' → Q (.bl b) H'
section
variable {X : Cx} {n m : Nat} {D D' : Cmp}
theorem EqB.mono (h : EqB X n D) (hn : n ≤ m) : EqB X m D := fun A pins s σ H x y u v b sb => h A pins s σ H x y u v b (sb.mono hn)
theorem EqB.or (h : EqB X n D) (h' : EqB X n D') : EqB X n (fun x y b H => D x y b H ∨ D' x y b H) := fun A pins s σ H x y u v b sb I rx ry d => d.elim (h A pins s σ H x y u v b sb I rx ry) (h' A pins s σ H x y u v b sb I rx ry)
theorem MonB.or (h : MonB D) (h' : MonB D') : MonB (fun x y b H => D x y b H ∨ D' x y b H) := fun x y b H H' e d => d.elim (fun d => .inl (h x y b H H' e d)) fun d => .inr (h' x y b H H' e d)
theorem ZipB.mon (hD : MonB D) {H H' : Hp} (e : Ext H H') : ∀ {xs ys : List V} {bs : List Bool}, ZipB D xs ys bs H → ZipB D xs ys bs H'
  | _ :: _, _ :: _, _ :: _, h => ⟨hD _ _ _ _ _ e h.1, ZipB.mon hD e h.2⟩
  | [], _, [], _ => trivial
  | _ :: _, [], [], _ => trivial
  | [], [], _ :: _, h => h.elim
  | [], _ :: _, _ :: _, h => h.elim
  | _ :: _, [], _ :: _, h => h.elim
  | _ :: _, _ :: _, [], h => h.elim
theorem ZipB.len {H : Hp} : ∀ {xs ys : List V} {bs : List Bool}, ZipB D xs ys bs H → bs.length = min xs.length ys.length
  | _ :: _, _ :: _, _ :: _, h => by
    have := ZipB.len h.2
    simp only [List.length_cons]
    omega
  | [], _, [], _ => by simp
  | _ :: _, [], [], _ => by simp
  | [], [], _ :: _, h => h.elim
  | [], _ :: _, _ :: _, h => h.elim
  | _ :: _, [], _ :: _, h => h.elim
  | _ :: _, _ :: _, [], h => h.elim
theorem ZipB.get {H : Hp} : ∀ {xs ys : List V} {bs : List Bool} {i : Nat} {x y : V}, ZipB D xs ys bs H → xs[i]? = some x → ys[i]? = some y → ∃ b, bs[i]? = some b ∧ D x y b H
  | _ :: _, _ :: _, b :: _, 0, _, _, h, h1, h2 => by
    cases h1
    cases h2
    exact ⟨b, rfl, h.1⟩
  | _ :: _, _ :: _, _ :: _, i + 1, _, _, h, h1, h2 => ZipB.get (i := i) h.2 h1 h2
  | [], _, _, _, _, _, _, h1, _ => by simp at h1
  | _ :: _, [], _, _, _, _, _, _, h2 => by simp at h2
  | _ :: _, _ :: _, [], _, _, _, h, _, _ => h.elim
theorem all_getD : ∀ (bs : List Bool), (List.range bs.length).all (fun i => bs.getD i true) = bs.all id
  | [] => rfl
  | b :: bs => by
    rw [List.length_cons, List.range_succ_eq_map, List.all_cons, List.all_cons, List.all_map]
    show (b && (List.range bs.length).all fun i => bs.getD i true) = _
    rw [all_getD bs]
    rfl
theorem monB_flat : MonB CFlat := fun _ _ _ _ _ _ d => d
theorem monB_tup (hD : MonB D) : MonB (CTup D) := fun x y b H H' e ⟨a, c, xs, ys, bs, h1, h2, h3, h4, h5, h6⟩ => ⟨a, c, xs, ys, bs, h1, h2, e _ _ h3, e _ _ h4, h5.mon hD e, h6⟩
theorem monB_ins {C : Addr} {R : Addr → Addr → Bool → Hp → Prop} (hR : ∀ a c b H H', Ext H H' → R a c b H → R a c b H') : MonB (CIns C R) := fun x y b H H' e ⟨a, c, dx, dy, fs, gs, h1, h2, h3, h4, h5⟩ => ⟨a, c, dx, dy, fs, gs, h1, h2, e _ _ h3, e _ _ h4, hR _ _ _ _ _ e h5⟩
theorem eqB_flat : EqB X 0 CFlat := by
  intro A pins s σ H x y u v b sb I rx ry ⟨fx, fy, e⟩
  subst e
  exact eqAt_V (A := A) (s := s) rx ry fx fy X.prog X.w X.xe _ ⟨rfl, H, I, Ext.rfl'⟩
theorem rcB_tup (hD : MonB D) (h : EqB X n D) : RcB X (n + 1) (CTup D) := by
  intro A pins s σ H x y u v b sb I rx ry ⟨a, c, xs, ys, bs, ex, ey, ha, hc, hz, hb⟩
  subst ex ey
  cases rx
  cases ry
  obtain ⟨us, r, e1, _⟩ := I.tuple (.inl (.inl ha))
  obtain ⟨vs, r2, e2, _⟩ := I.tuple (.inl (.inl hc))
  have n1 : us.toArray.size = xs.length := by rw [List.size_toArray, ← r.length]
  have n2 : vs.toArray.size = ys.length := by rw [List.size_toArray, ← r2.length]
  have hl := hz.len
  have ans : ((List.range (min us.toArray.size vs.toArray.size)).all (fun i => bs.getD i true) && (us.toArray.size == vs.toArray.size)) = b := by
    rw [n1, n2, ← hl, all_getD, hb]
  refine rc_tuple_any (e := fun i => bs.getD i true) sb.room.units0 (fun _ s' => LoopI X pins σ H s') e1 e2 (fun i h1 h2 s' ⟨H1, I1, x1⟩ => ?_) (fun i s' q => ⟨by rw [ans], q⟩) ⟨H, I, Ext.rfl'⟩
  have k1 : i < xs.length := n1 ▸ h1
  have k2 : i < ys.length := n2 ▸ h2
  obtain ⟨p, hp, rp⟩ := r.get (List.getElem?_eq_getElem k1)
  obtain ⟨q, hq, rq⟩ := r2.get (List.getElem?_eq_getElem k2)
  obtain ⟨z, hz1, hz2⟩ := (hz.mon hD x1).get (List.getElem?_eq_getElem k1) (List.getElem?_eq_getElem k2)
  have g1 : us.toArray[i] = p := by
    have h1' : i < us.length := by simpa using h1
    rw [List.getElem?_eq_getElem h1'] at hp
    simpa using Option.some.inj hp
  have g2 : vs.toArray[i] = q := by
    have h2' : i < vs.length := by simpa using h2
    rw [List.getElem?_eq_getElem h2'] at hq
    simpa using Option.some.inj hq
  rw [g1, g2]
  refine wpAny_mono (h A.in1 pins s' σ H1 _ _ p q z sb.in1 I1 rp rq hz2) (fun t s2 ⟨ht, H2, I2, x2⟩ => ?_) fun _ _ z => z
  refine ⟨?_, H2, I2, x1.trans x2⟩
  rw [ht, List.getD_eq_getElem?_getD, hz1]
  rfl
/-- a value is equal to itself -/
def SelfB (D : Cmp) : Prop := ∀ x b H, D x x b H → b = true
theorem SelfB.or (h : SelfB D) (h' : SelfB D') : SelfB (fun x y b H => D x y b H ∨ D' x y b H) := fun x b H d => d.elim (h x b H) (h' x b H)
theorem eqV_self : ∀ x : V, flatV x = true → eqV x x = true
  | .non, _ => rfl
  | .bl b, _ => by show (b == b) = true; exact beq_self_eq_true b
  | .int i, _ => by show (i == i) = true; exact beq_self_eq_true i
  | .str z, _ => by show (z == z) = true; exact beq_self_eq_true z
theorem self_flat : SelfB CFlat := fun x b H ⟨h1, _, h3⟩ => h3 ▸ eqV_self x h1
theorem zip_self (h : SelfB D) {H : Hp} : ∀ {xs : List V} {bs : List Bool}, ZipB D xs xs bs H → bs.all id = true
  | [], [], _ => rfl
  | x :: xs, b :: bs, z => by
    rw [List.all_cons, zip_self h z.2, Bool.and_true]
    exact h x b H z.1
  | [], _ :: _, z => z.elim
  | _ :: _, [], z => z.elim
theorem self_tup (h : SelfB D) : SelfB (CTup D) := fun x b H ⟨a, c, xs, ys, bs, e1, e2, h1, h2, h3, h4⟩ => by
  subst e1
  cases e2
  rw [h1] at h2
  cases h2
  rw [h4, zip_self h h3]
  simp
theorem self_ins {C : Addr} {R : Addr → Addr → Bool → Hp → Prop} (h : ∀ a b H, R a a b H → b = true) : SelfB (CIns C R) := fun x b H ⟨a, c, _, _, _, _, e1, e2, _, _, hr⟩ => by
  subst e1
  cases e2
  exact h a b H hr
/-- the same object is equal to itself -/
theorem RcB.eqB (h : RcB X n D) (hr : ∀ x y b H, D x y b H → ∃ a c, x = .ref a ∧ y = .ref c) (hs : SelfB D) : EqB X n D := by
  intro A pins s σ H x y u v b sb I rx ry d
  obtain ⟨a, c, rfl, rfl⟩ := hr _ _ _ _ d
  cases rx
  cases ry
  by_cases hac : a = c
  · subst hac
    obtain rfl := hs _ _ _ d
    exact SeqAt.EqAt.same (A := A) (s := s) (.ref a) X.prog X.w X.xe _ ⟨rfl, H, I, Ext.rfl'⟩
  · exact GQ.eqBool_refG hac (wpAny_mono (h A pins s σ H (.ref a) (.ref c) _ _ b sb I rfl rfl d) (fun r s' ⟨q1, q2⟩ => ⟨b, q1, rfl, q2⟩) fun _ _ z => z)
/-- x == y as an expression -/
def rEqB (D : Cmp) : R2 := fun x y H Q => ∃ b, D x y b H ∧ ∀ H', Ext H H' → Q (.bl b) H'
theorem op_eqB (h : RcB X n D) (hr : Room n X.A) : OpR X (compareOp .Eq) (rEqB D) := by
  intro pins s σ H x y v u Q I rx ry ⟨b, d, q⟩
  show wpAny (model X.prog X.w) X.A (richCompare .Eq v u) (EP X pins σ Q) X.xe s
  refine wpAny_mono (h X.A pins s σ H x y v u b ⟨hr, rfl⟩ I rx ry d) (fun r s' ⟨z, H', I', e⟩ => ?_) fun _ _ z => z
  subst z
  exact ⟨.bl b, H', I', rfl, q H' e⟩
theorem rcB_ins {CX : CXT} {C f : Addr} {fd : FuncData} {ps : List Str} {R : Addr → Addr → Bool → Hp → Prop} {E : XK} (F : FnOk X.prog X.w X.K X.mg X.base CX n f fd ps (spEqB R))
    (hs : PySem.W.findIn X.K (.ref C) "__eq__" = some (some (.ref f))) (hf : PySem.W.isFn X.K (.ref f) = true) (hb : Binds X.K fd ps []) (hx : Passes CX X E) : RcB X n (CIns C R) := by
  intro A pins s σ H x y u v b sb I rx ry ⟨a, c, dx, dy, fs, gs, ex, ey, ha, hc, hr⟩
  subst ex ey
  cases rx
  cases ry
  obtain ⟨_, J, _⟩ := ins_get I.hok ha
  obtain ⟨_, J', _⟩ := ins_get I.hok hc
  obtain ⟨_, J, _⟩ := J.look
  obtain ⟨_, J', _⟩ := J'.look
  obtain ⟨m, hF⟩ := I.fr
  refine PySem.W.cmp_K (op := .Eq) (tb := .ref C) sb.room.units0 hF I.ok.mod.kin J J'.type (by simp [PySem.W.notFirst]) hs hf ?_
  have sp : spEqB R [.ref a, .ref c] H (fun v H' => v = .bl b ∧ Ext H H') E := ⟨a, c, b, rfl, hr, fun H' e => ⟨rfl, e⟩⟩
  have e0 := I.env0
  have e1 : Env0 X.prog X.w X.K X.mg X.base A X.stack s H := ⟨sb.fr.trans e0.frames, e0.mod, e0.bs, e0.bsz, e0.funs, e0.frf, e0.hok, e0.bare⟩
  have two : [Value.ref a, Value.ref c].length = ps.length := F.len _ _ _ _ sp
  have bnd := hb s [.ref a, .ref c] I.kIn (by rw [List.append_nil]; exact two)
  rw [List.append_nil] at bnd
  refine wpAny_call (codeAny_mono (F.run A X.stack s H ⟨[.ref a, .ref c], []⟩ [.ref a, .ref c] [.ref a, .ref c] _ E sb.room e1 bnd (.cons rfl (.cons rfl .nil)) sp) fun r s' hq => ?_)
  cases r with
  | error z => exact hx pins σ H s z s' I hq
  | ok fl =>
    cases fl with
    | ret t =>
      obtain ⟨z, H', I', rz, ez, ext⟩ := I.after hq
      subst ez
      cases rz
      exact ⟨rfl, H', I', ext⟩
    | next => exact False.elim hq
    | brk => exact False.elim hq
    | cont => exact False.elim hq
end
end FsQ

set_option Elab.async false
set_option linter.all false
set_option maxRecDepth 100000
set_option maxHeartbeats 4000000
/-! Two processes by the class's own ==, whatever the answer. -/
namespace Fs
open PySem L2 Evl FsE FsC FsR FsQ
noncomputable def same {α : Type} (x y : α) : Bool := @decide (x = y) (Classical.propDecidable _)
theorem same_iff {α : Type} {x y : α} : same x y = true ↔ x = y := @decide_eq_true_iff _ (Classical.propDecidable _)
theorem same_is {α : Type} {x y : α} {b : Bool} (h : b = true ↔ x = y) : b = same x y := Bool.eq_iff_iff.mpr (h.trans same_iff.symm)
theorem same_self {α : Type} (x : α) : same x x = true := same_iff.mpr rfl
/-! a process by where it stands -/
def kTag (k : Str) : Nat := if k = "choice" then 0 else if k = "new" then 1 else if k = "if" then 2 else 3
def Pr.tag : Pr → Nat
  | .choice _ => 0
  | .new _ _ _ => 1
  | .cond _ _ _ _ => 2
  | .call _ _ => 3
theorem tag_kind (p : Pr) : kTag p.kind = p.tag := by
  cases p with
  | choice os => show kTag "choice" = 0; decide +kernel
  | new n k r => show kTag "new" = 1; decide +kernel
  | cond l r y n => show kTag "if" = 2; decide +kernel
  | call n ops => show kTag "call" = 3; decide +kernel
theorem Opd.v_inj {o q : Opd} (h : o.v = q.v) : o = q := by
  cases o <;> cases q <;> cases h <;> rfl
theorem map_inj {α β : Type} {f : α → β} (hf : ∀ x y, f x = f y → x = y) : ∀ {xs ys : List α}, xs.map f = ys.map f → xs = ys
  | [], [], _ => rfl
  | [], _ :: _, h => nomatch h
  | _ :: _, [], h => nomatch h
  | x :: xs, y :: ys, h => by
    injection h with h1 h2
    rw [hf _ _ h1, map_inj hf h2]
theorem InsAt.uniq {C a t t' : Addr} {H : Hp} {k k' : Str} {d z d' z' : Int} (h : InsAt C H a k t d z) (g : InsAt C H a k' t' d' z') : k = k' ∧ t = t' := by
  obtain ⟨dx, h⟩ := h
  obtain ⟨dy, g⟩ := g
  rw [h] at g
  have e : pFlds k t d z = pFlds k' t' d' z' := by
    have := Option.some.inj g
    injection this
  have e1 : some (V.str k) = some (V.str k') := by rw [← pf_kind (k := k) (t := t) (d := d) (z := z), e, pf_kind]
  have e2 : some (V.ref t) = some (V.ref t') := by rw [← pf_parts (k := k) (t := t) (d := d) (z := z), e, pf_parts]
  cases e1
  cases e2
  exact ⟨rfl, rfl⟩
theorem kind_of {C a : Addr} {H : Hp} {p q : Pr} (h : PrAt C H a p) (g : PrAt C H a q) : p.tag = q.tag := by
  obtain ⟨t, ps, h1, _⟩ := h.ins
  obtain ⟨t', ps', g1, _⟩ := g.ins
  rw [← tag_kind, ← tag_kind, (h1.uniq g1).1]
mutual
theorem PrAt.uniq {C : Addr} {H : Hp} : ∀ {p q : Pr} {a : Addr}, PrAt C H a p → PrAt C H a q → p = q
  | .choice os, .choice qs, a, h, g => by
    unfold PrAt at h g
    obtain ⟨t, ps, h1, h2, h3⟩ := h
    obtain ⟨t', ps', g1, g2, g3⟩ := g
    obtain ⟨_, rfl⟩ := h1.uniq g1
    rw [h2] at g2
    cases g2
    rw [OfsAt.uniq h3 g3]
  | .new n k r, .new n' k' r', a, h, g => by
    unfold PrAt at h g
    obtain ⟨t, b, h1, h2, h3⟩ := h
    obtain ⟨t', b', g1, g2, g3⟩ := g
    obtain ⟨_, rfl⟩ := h1.uniq g1
    rw [h2] at g2
    cases g2
    rw [PrAt.uniq h3 g3]
  | .cond l r y n, .cond l' r' y' n', a, h, g => by
    unfold PrAt at h g
    obtain ⟨t, b, c, h1, h2, h3, h4⟩ := h
    obtain ⟨t', b', c', g1, g2, g3, g4⟩ := g
    obtain ⟨_, rfl⟩ := h1.uniq g1
    rw [h2] at g2
    injection g2 with g2
    injection g2 with g2
    injection g2 with e1 g2
    injection g2 with e2 g2
    injection g2 with e3 g2
    injection g2 with e4 g2
    cases e3
    cases e4
    rw [Opd.v_inj e1, Opd.v_inj e2, PrAt.uniq h3 g3, PrAt.uniq h4 g4]
  | .call n ops, .call n' ops', a, h, g => by
    unfold PrAt at h g
    obtain ⟨t, u, h1, h2, h3⟩ := h
    obtain ⟨t', u', g1, g2, g3⟩ := g
    obtain ⟨_, rfl⟩ := h1.uniq g1
    rw [h2] at g2
    cases g2
    rw [h3] at g3
    have e : ops.map Opd.v = ops'.map Opd.v := by
      have := Option.some.inj g3
      injection this
    rw [map_inj (fun _ _ => Opd.v_inj) e]
  | .choice _, .new _ _ _, _, h, g => absurd (kind_of h g) (by show ¬ 0 = 1; decide)
  | .choice _, .cond _ _ _ _, _, h, g => absurd (kind_of h g) (by show ¬ 0 = 2; decide)
  | .choice _, .call _ _, _, h, g => absurd (kind_of h g) (by show ¬ 0 = 3; decide)
  | .new _ _ _, .choice _, _, h, g => absurd (kind_of h g) (by show ¬ 1 = 0; decide)
  | .new _ _ _, .cond _ _ _ _, _, h, g => absurd (kind_of h g) (by show ¬ 1 = 2; decide)
  | .new _ _ _, .call _ _, _, h, g => absurd (kind_of h g) (by show ¬ 1 = 3; decide)
  | .cond _ _ _ _, .choice _, _, h, g => absurd (kind_of h g) (by show ¬ 2 = 0; decide)
  | .cond _ _ _ _, .new _ _ _, _, h, g => absurd (kind_of h g) (by show ¬ 2 = 1; decide)
  | .cond _ _ _ _, .call _ _, _, h, g => absurd (kind_of h g) (by show ¬ 2 = 3; decide)
  | .call _ _, .choice _, _, h, g => absurd (kind_of h g) (by show ¬ 3 = 0; decide)
  | .call _ _, .new _ _ _, _, h, g => absurd (kind_of h g) (by show ¬ 3 = 1; decide)
  | .call _ _, .cond _ _ _ _, _, h, g => absurd (kind_of h g) (by show ¬ 3 = 2; decide)
theorem OfsAt.uniq {C : Addr} {H : Hp} : ∀ {os qs : Ofs} {ps : List V}, OfsAt C H ps os → OfsAt C H ps qs → os = qs
  | .nil, .nil, _, _, _ => rfl
  | .nil, .cons _ _ _ _ _ _ _, ps, h, g => by
    unfold OfsAt at h g
    subst h
    obtain ⟨_, _, _, _, e, _⟩ := g
    cases e
  | .cons _ _ _ _ _ _ _, .nil, ps, h, g => by
    unfold OfsAt at h g
    subst g
    obtain ⟨_, _, _, _, e, _⟩ := h
    cases e
  | .cons c s m op ns r os, .cons c' s' m' op' ns' r' os', ps, h, g => by
    unfold OfsAt at h g
    obtain ⟨o, u, b, qs, rfl, h1, h2, h3, h4⟩ := h
    obtain ⟨o', u', b', qs', e, g1, g2, g3, g4⟩ := g
    cases e
    rw [h1] at g1
    injection g1 with g1
    injection g1 with g1
    injection g1 with e1 g1
    injection g1 with e2 g1
    injection g1 with e3 g1
    injection g1 with e4 g1
    injection g1 with e5 g1
    injection g1 with e6 g1
    cases e1
    cases e2
    cases e3
    cases e5
    cases e6
    rw [h2] at g2
    have e7 : ns.map V.str = ns'.map V.str := by
      have := Option.some.inj g2
      injection this
    rw [Opd.v_inj e4, map_inj (fun _ _ z => by cases z; rfl) e7, PrAt.uniq h3 g3, OfsAt.uniq h4 g4]
end
/-- processes, one of depth d at most -/
def RPrB (C : Addr) (d : Nat) (a c : Addr) (b : Bool) (H : Hp) : Prop := ∃ p q : Pr, p.depth ≤ (d : Int) ∧ PrAt C H a p ∧ PrAt C H c q ∧ b = same p q
theorem RPrB.ext {C : Addr} {d : Nat} {a c : Addr} {b : Bool} {H H' : Hp} (e : Ext H H') (h : RPrB C d a c b H) : RPrB C d a c b H' := by
  obtain ⟨p, q, hd, h1, h2, h3⟩ := h
  exact ⟨p, q, hd, h1.ex e, h2.ex e, h3⟩
theorem RPrB.self {C : Addr} {d : Nat} {a : Addr} {b : Bool} {H : Hp} (h : RPrB C d a a b H) : b = true := by
  obtain ⟨p, q, _, h1, h2, h3⟩ := h
  rw [h3, h1.uniq h2]
  exact same_self _
abbrev COr (D D' : Cmp) : Cmp := fun x y b H => D x y b H ∨ D' x y b H
abbrev CIt (C : Addr) (d : Nat) : Cmp := COr (COr CFlat (CTup CFlat)) (CIns C (RPrB C d))
abbrev CPt (C : Addr) (d : Nat) : Cmp := COr (CIt C d) (CTup (CIt C d))
theorem mon_itB {C : Addr} {d : Nat} : MonB (CIt C d) := (monB_flat.or (monB_tup monB_flat)).or (monB_ins fun _ _ _ _ _ e h => h.ext e)
theorem mon_ptB {C : Addr} {d : Nat} : MonB (CPt C d) := mon_itB.or (monB_tup mon_itB)
section
variable {C : Addr} {d : Nat} {H : Hp}
theorem bf_str {x y : Str} : CFlat (.str x) (.str y) (same x y) H := ⟨rfl, rfl, same_is (by show (x == y) = true ↔ x = y; exact beq_iff_eq)⟩
theorem bf_int {x y : Int} : CFlat (.int x) (.int y) (same x y) H := ⟨rfl, rfl, same_is (by show (x == y) = true ↔ x = y; exact beq_iff_eq)⟩
theorem bf_opd {o q : Opd} : CFlat o.v q.v (same o q) H := by
  cases o with
  | int i =>
    cases q with
    | int j => exact ⟨rfl, rfl, same_is (by show (i == j) = true ↔ _; rw [beq_iff_eq]; exact ⟨fun z => by rw [z], fun z => by cases z; rfl⟩)⟩
    | nm y => exact ⟨rfl, rfl, same_is (by show false = true ↔ _; exact ⟨(fun z => nomatch z), (fun z => nomatch z)⟩)⟩
  | nm x =>
    cases q with
    | int j => exact ⟨rfl, rfl, same_is (by show false = true ↔ _; exact ⟨(fun z => nomatch z), (fun z => nomatch z)⟩)⟩
    | nm y => exact ⟨rfl, rfl, same_is (by show (x == y) = true ↔ _; rw [beq_iff_eq]; exact ⟨fun z => by rw [z], fun z => by cases z; rfl⟩)⟩
theorem zip_fl {α : Type} {f : α → V} (hf : ∀ x y, CFlat (f x) (f y) (same x y) H) : ∀ (xs ys : List α), ∃ bs, ZipB CFlat (xs.map f) (ys.map f) bs H ∧ (bs.all id && ((xs.map f).length == (ys.map f).length)) = same xs ys
  | [], [] => ⟨[], trivial, (same_self _).symm⟩
  | [], y :: ys => ⟨[], trivial, same_is ⟨fun z => by simp at z, fun z => nomatch z⟩⟩
  | x :: xs, [] => ⟨[], trivial, same_is ⟨fun z => by simp at z, fun z => nomatch z⟩⟩
  | x :: xs, y :: ys => by
    obtain ⟨bs, h1, h2⟩ := zip_fl hf xs ys
    refine ⟨same x y :: bs, ⟨hf x y, h1⟩, same_is ?_⟩
    rw [List.all_cons, List.map_cons, List.map_cons, List.length_cons, List.length_cons]
    have e : ((xs.map f).length + 1 == (ys.map f).length + 1) = ((xs.map f).length == (ys.map f).length) := Bool.eq_iff_iff.mpr (by simp)
    rw [e, Bool.and_assoc, h2]
    show (same x y && same xs ys) = true ↔ _
    rw [Bool.and_eq_true, same_iff, same_iff, List.cons.injEq]
theorem bt_tup {α : Type} {f : α → V} (hf : ∀ x y, CFlat (f x) (f y) (same x y) H) {a c : Addr} {xs ys : List α} (ha : H a = some (.tup (xs.map f))) (hc : H c = some (.tup (ys.map f))) : CIt C d (.ref a) (.ref c) (same xs ys) H := by
  obtain ⟨bs, h1, h2⟩ := zip_fl hf xs ys
  exact .inl (.inr ⟨a, c, _, _, bs, rfl, rfl, ha, hc, h1, h2.symm⟩)
theorem bi_pr {a c : Addr} {p q : Pr} (hd : p.depth ≤ (d : Int)) (ha : PrAt C H a p) (hc : PrAt C H c q) : CIt C d (.ref a) (.ref c) (same p q) H := by
  obtain ⟨t, ps, ⟨dx, h1⟩, _⟩ := ha.out
  obtain ⟨t2, ps2, ⟨dy, h2⟩, _⟩ := hc.out
  exact .inr ⟨a, c, dx, dy, _, _, rfl, rfl, h1, h2, p, q, hd, ha, hc, rfl⟩
theorem bf_it {x y : V} {b : Bool} (h : CFlat x y b H) : CIt C d x y b H := .inl (.inl h)
theorem zip_ofs : ∀ {os qs : Ofs} {xs ys : List V}, os.depth ≤ (d : Int) → OfsAt C H xs os → OfsAt C H ys qs → ∃ bs, ZipB (CPt C d) xs ys bs H ∧ (bs.all id && (xs.length == ys.length)) = same os qs
  | .nil, .nil, xs, ys, _, h, g => by
    unfold OfsAt at h g
    subst h g
    exact ⟨[], trivial, (same_self _).symm⟩
  | .nil, .cons _ _ _ _ _ _ _, xs, ys, _, h, g => by
    unfold OfsAt at h g
    subst h
    obtain ⟨_, _, _, _, rfl, _⟩ := g
    exact ⟨[], trivial, same_is ⟨fun z => by simp at z, fun z => nomatch z⟩⟩
  | .cons _ _ _ _ _ _ _, .nil, xs, ys, _, h, g => by
    unfold OfsAt at h g
    subst g
    obtain ⟨_, _, _, _, rfl, _⟩ := h
    exact ⟨[], trivial, same_is ⟨fun z => by simp at z, fun z => nomatch z⟩⟩
  | .cons c s m op ns r os, .cons c' s' m' op' ns' r' os', xs, ys, hd, h, g => by
    rw [Ofs.depth] at hd
    unfold OfsAt at h g
    obtain ⟨o, u, b, zs, rfl, h1, h2, h3, h4⟩ := h
    obtain ⟨o', u', b', zs', rfl, g1, g2, g3, g4⟩ := g
    obtain ⟨bs, k1, k2⟩ := zip_ofs (by omega) h4 g4
    refine ⟨(same c c' && (same s s' && (same m m' && (same op op' && (same ns ns' && same r r'))))) :: bs, ⟨.inr ⟨o, o', _, _, [same c c', same s s', same m m', same op op', same ns ns', same r r'], rfl, rfl, h1, g1, ⟨bf_it bf_str, bf_it bf_int, bf_it bf_int, bf_it bf_opd, bt_tup (fun _ _ => bf_str) h2 g2, bi_pr (by omega) h3 g3, trivial⟩, ?_⟩, k1⟩, same_is ?_⟩
    · show _ = ((same c c' && (same s s' && (same m m' && (same op op' && (same ns ns' && (same r r' && true)))))) && true)
      rw [Bool.and_true, Bool.and_true]
    · rw [List.all_cons, List.length_cons, List.length_cons]
      have e : (zs.length + 1 == zs'.length + 1) = (zs.length == zs'.length) := Bool.eq_iff_iff.mpr (by simp)
      rw [e, Bool.and_assoc, k2]
      show ((same c c' && (same s s' && (same m m' && (same op op' && (same ns ns' && same r r'))))) && same os os') = true ↔ _
      simp only [Bool.and_eq_true, same_iff, Ofs.cons.injEq, and_assoc]
theorem zip_parts {p q : Pr} {xs ys : List V} (hk : p.kind = q.kind) (hd : p.depth ≤ (d : Int) + 1) (h : PartsAt C H xs p) (g : PartsAt C H ys q) : ∃ bs, ZipB (CPt C d) xs ys bs H ∧ (bs.all id && (xs.length == ys.length)) = same p q := by
  have ht : p.tag = q.tag := by rw [← tag_kind, ← tag_kind, hk]
  cases p with
  | choice os =>
    cases q with
    | choice qs =>
      rw [Pr.depth] at hd
      obtain ⟨bs, k1, k2⟩ := zip_ofs (C := C) (d := d) (H := H) (by omega) h g
      exact ⟨bs, k1, by rw [k2]; exact same_is (by rw [same_iff, Pr.choice.injEq])⟩
    | new _ _ _ => exact absurd ht (by show ¬ 0 = 1; decide)
    | cond _ _ _ _ => exact absurd ht (by show ¬ 0 = 2; decide)
    | call _ _ => exact absurd ht (by show ¬ 0 = 3; decide)
  | new n k r =>
    cases q with
    | new n' k' r' =>
      rw [Pr.depth] at hd
      obtain ⟨b, rfl, hb⟩ := h
      obtain ⟨b', rfl, hb'⟩ := g
      refine ⟨[same n n', same k k', same r r'], ⟨.inl (bf_it bf_str), .inl (bf_it bf_int), .inl (bi_pr (by omega) hb hb'), trivial⟩, same_is ?_⟩
      show ((same n n' && (same k k' && (same r r' && true))) && true) = true ↔ _
      simp only [Bool.and_eq_true, same_iff, Pr.new.injEq, and_true]
    | choice _ => exact absurd ht (by show ¬ 1 = 0; decide)
    | cond _ _ _ _ => exact absurd ht (by show ¬ 1 = 2; decide)
    | call _ _ => exact absurd ht (by show ¬ 1 = 3; decide)
  | cond l r y n =>
    cases q with
    | cond l' r' y' n' =>
      rw [Pr.depth] at hd
      obtain ⟨b, c, rfl, hb, hc⟩ := h
      obtain ⟨b', c', rfl, hb', hc'⟩ := g
      refine ⟨[same l l', same r r', same y y', same n n'], ⟨.inl (bf_it bf_opd), .inl (bf_it bf_opd), .inl (bi_pr (by omega) hb hb'), .inl (bi_pr (by omega) hc hc'), trivial⟩, same_is ?_⟩
      show ((same l l' && (same r r' && (same y y' && (same n n' && true)))) && true) = true ↔ _
      simp only [Bool.and_eq_true, same_iff, Pr.cond.injEq, and_true]
    | choice _ => exact absurd ht (by show ¬ 2 = 0; decide)
    | new _ _ _ => exact absurd ht (by show ¬ 2 = 1; decide)
    | call _ _ => exact absurd ht (by show ¬ 2 = 3; decide)
  | call n ops =>
    cases q with
    | call n' ops' =>
      obtain ⟨u, rfl, hu⟩ := h
      obtain ⟨u', rfl, hu'⟩ := g
      refine ⟨[same n n', same ops ops'], ⟨.inl (bf_it bf_str), .inl (bt_tup (fun _ _ => bf_opd) hu hu'), trivial⟩, same_is ?_⟩
      show ((same n n' && (same ops ops' && true)) && true) = true ↔ _
      simp only [Bool.and_eq_true, same_iff, Pr.call.injEq, and_true]
    | choice _ => exact absurd ht (by show ¬ 3 = 0; decide)
    | new _ _ _ => exact absurd ht (by show ¬ 3 = 1; decide)
    | cond _ _ _ _ => exact absurd ht (by show ¬ 3 = 2; decide)
end
section
variable {P : Program} {w : World} {K : PySem.W.Frag} {mg : Str → Option Value} {base : Heap} {C CB : Addr}
theorem scEqB : FnScope ["self", "other"] ["self", "other"] (defScope (inClass (topS 36) 6)) := ⟨rfl, rfl, rfl, by decide +kernel, rfl, by decide +kernel, by decide +kernel⟩
theorem eqB_pt {X : Cx} {f : Addr} {fd : FuncData} {d n : Nat} {E : XK} (hn : 1 ≤ n) (ih : FnOk X.prog X.w X.K X.mg X.base CX0 n f fd ["self", "other"] (spEqB (RPrB C d))) (at_ : PySem.W.findIn X.K (.ref C) "__eq__" = some (some (.ref f))) (fn : PySem.W.isFn X.K (.ref f) = true) (hb : Binds X.K fd ["self", "other"] []) (hx : Passes CX0 X E) : EqB X (n + 1) (CPt C d) := by
  have sf : SelfB (CIt C d) := (self_flat.or (self_tup self_flat)).or (self_ins fun a b H h => h.self)
  have e1 : EqB X 1 (CTup CFlat) := (rcB_tup monB_flat eqB_flat).eqB (fun _ _ _ _ ⟨a, c, _, _, _, hx, hy, _⟩ => ⟨a, c, hx, hy⟩) (self_tup self_flat)
  have e2 : EqB X n (CIns C (RPrB C d)) := (rcB_ins ih at_ fn hb hx).eqB (fun _ _ _ _ ⟨a, c, _, _, _, _, hx, hy, _⟩ => ⟨a, c, hx, hy⟩) (self_ins fun a b H h => h.self)
  have e3 : EqB X n (CIt C d) := ((eqB_flat.mono (Nat.zero_le _)).or (e1.mono hn)).or e2
  exact (e3.mono (Nat.le_succ _)).or ((rcB_tup mon_itB e3).eqB (fun _ _ _ _ ⟨a, c, _, _, _, hx, hy, _⟩ => ⟨a, c, hx, hy⟩) (self_tup sf))
theorem ok_eqB {f : Addr} {fd : FuncData} (F : Fun K "__eq__" "Process.__eq__" (inClass (topS 36) 6) f fd) (hi : mg "isinstance" = none) (T : TerT K mg C CB) (at_ : PySem.W.findIn K (.ref C) "__eq__" = some (some (.ref f))) (fn : PySem.W.isFn K (.ref f) = true) (hb : Binds K fd ["self", "other"] []) : ∀ d : Nat, FnOk P w K mg base CX0 (2 + 3 * d) f fd ["self", "other"] (spEqB (RPrB C d))
  | 0 => by
    refine F.ok scEqB (fun vs H Q E h => ?_) (fun cdv A outer s H vs Q E hr h => ?_)
    · obtain ⟨a, c, b, rfl, _⟩ := h
      rfl
    · obtain ⟨a, c, b, rfl, ⟨p, q, hp, _⟩, _⟩ := h
      have := Pr.depth_pos p
      exact absurd hp (by omega)
  | d + 1 => by
    have ih := ok_eqB F hi T at_ fn hb d
    have ek : 2 + 3 * (d + 1) = 2 + 3 * d + 2 + 1 := by omega
    rw [ek]
    refine F.ok scEqB (fun vs H Q E h => ?_) (fun cdv A outer s H vs Q E hr h => ?_)
    · obtain ⟨a, c, b, rfl, _⟩ := h
      rfl
    · obtain ⟨a, c, b, rfl, ⟨p, q, hp, ha, hc, hbb⟩, k⟩ := h
      refine ⟨_, pss_one (ps_ret (pe_and (pe_callB (id := "isinstance") (r := rIsi K) call_isi (by rfl) hi (by decide +kernel) (pa_cons (pv 1) (pa_cons (pe_glob (v := .ref C) (by rfl) T.mgC rfl) pa_nil)))
        (pe_and (pe_cmpR op_eq (pe_fld (pv 0) rfl) (pe_fld (pv 1) rfl) (nomark _))
          (pe_one (pe_cmpR (op_eqB (n := 2 + 3 * d + 1 + 1) (D := CTup (CPt C d)) (rcB_tup mon_ptB (eqB_pt (C := C) (d := d) (by omega) ih at_ fn hb pass0)) (hr.mono (by omega))) (pe_fld (pv 0) rfl) (pe_fld (pv 1) rfl) (nomark _)))))), ?_⟩
      obtain ⟨t, xs, ⟨dx, h1⟩, h2, h3⟩ := ha.out
      obtain ⟨t', ys, ⟨dy, g1⟩, g2, g3⟩ := hc.out
      have hkb : decide (V.str p.kind = V.str q.kind) = true ↔ p.kind = q.kind := by rw [decide_eq_true_eq]; exact ⟨fun z => by injection z, fun z => by rw [z]⟩
      refine s_ret (v := .bl b) (ev_is (ev_andV (a := true) (b := decide (V.str p.kind = V.str q.kind) && same p q) (ev_cb (ea_cons (ev_var rfl) (ea_cons ev_c ea_nil)) (rc_isiOwn (tyx_pr T hc) kOwn)) (fun _ => ev_andV (a := decide (V.str p.kind = V.str q.kind)) (b := same p q) (ev_op (ev_fld (ev_var rfl) h1 T.cl T.nK pf_kind) (ev_fld (ev_var rfl) g1 T.cl T.nK pf_kind) (rv_eq rfl)) (fun hk => ?_))) ?_) k
      · refine ev_op (ev_fld (ev_var rfl) h1 T.cl T.nP pf_parts) (ev_fld (ev_var rfl) g1 T.cl T.nP pf_parts) (fun H1 e1 Q' q' => ?_)
        obtain ⟨bs, z1, z2⟩ := zip_parts (C := C) (d := d) (H := H1) (hkb.mp hk) (by omega) (h3.ex e1) (g3.ex e1)
        exact ⟨same p q, ⟨t, t', xs, ys, bs, rfl, rfl, e1 _ _ h2, e1 _ _ g2, z1, z2.symm⟩, fun H2 e2 => q' H2 e2⟩
      · rw [hbb, Bool.true_and]
        refine congrArg V.bl (Bool.eq_iff_iff.mpr ?_)
        rw [Bool.and_eq_true, hkb, same_iff]
        exact ⟨fun z => z.2, fun z => ⟨by rw [z], z⟩⟩
end
end Fs

set_option Elab.async false
set_option linter.all false
set_option maxRecDepth 100000
set_option maxHeartbeats 4000000
/-! == of two dicts whose values are compared by own methods. -/
namespace FsQ
open PySem PySem.W PySem.Calls PyProof.Rows PyProof.V PySem.Spec
section
variable {prog : Program} {w : World} {K : Type} [DecidableEq K] {knd : KeyKind prog w K} {A : Around} {E : Value → Shared → Prop} {s : Shared}
def dAns {K : Type} [DecidableEq K] (ka kb : List (K × Value)) (e : K → Bool) : Bool := ka.length == kb.length && ka.all fun p => (valueAt kb p.1).isSome && e p.1
theorem samePairsB {nm : String} {a b : Addr} {ka kb : List (K × Value)} {e : K → Bool} {Q : Bool → Shared → Prop} (I : Nat → Shared → Prop) (ha : (a == sysModules) = false) (hb : (b == sysModules) = false)
    (da : s.heap.DictOf knd a ka) (db : s.heap.DictOf knd b kb) (sa : ∀ i s', I i s' → s'.heap.get? a = s.heap.get? a ∧ s'.heap.get? b = s.heap.get? b)
    (pair : ∀ i k v y s', ka[i]? = some (k, v) → valueAt kb k = some y → I i s' → wpAny (model prog w) A (eqBool v y) (fun r s2 => r = e k ∧ I (i + 1) s2) E s')
    (ends : ∀ i s', I i s' → Q (dAns ka kb e) s') (h0 : I 0 s) :
    wpAny (model prog w) A (Builtin.Dict.samePairs nm a b) Q E s := by
  obtain ⟨oa, es, ep, hoa, _, hda, hka, hpa, _⟩ := da
  obtain ⟨ob, es', ep', hob, _, hdb, hkb, hpb, _⟩ := db
  have hla : ka.length = es.size := by rw [← hpa.length]; exact Array.length_toList
  have hlb : kb.length = es'.size := by rw [← hpb.length]; exact Array.length_toList
  have hfind : ∀ k, findBy knd.is es' k = valueAt kb k := fun k => by
    rw [← hpb.find k]
    clear hlb hpb hkb hdb hob sa
    obtain ⟨l⟩ := es'
    simp [findBy]
  have sa' : ∀ i s', I i s' → s'.heap.get? a = some oa ∧ s'.heap.get? b = some ob := fun i s' h => by rw [← hoa, ← hob]; exact sa i s' h
  unfold Builtin.Dict.samePairs Builtin.Dict.showsAll
  rw [if_neg (show ¬ (a == sysModules) = true by rw [ha]; exact Bool.false_ne_true), if_neg (show ¬ (b == sysModules) = true by rw [hb]; exact Bool.false_ne_true)]
  refine wpAny_bind (wpAny_pure (wpAny_bind (wpAny_pure ?_)))
  refine wpAny_bind (wpAny_dictEntries hoa hda ?_)
  dsimp only
  refine wpAny_bind (wpAny_dictEntries hob hdb ?_)
  by_cases hsz : es.size = es'.size
  case neg =>
    rw [if_pos (by simpa using hsz)]
    have hbf : (ka.length == kb.length) = false := by rw [hla, hlb]; simpa using hsz
    have out := ends 0 s h0
    unfold dAns at out
    rw [hbf, Bool.false_and] at out
    exact wpAny_bind (wpAny_rule (wpAny_pure out))
  case pos =>
    have hlt2 : (ka.length == kb.length) = true := by rw [hla, hlb]; simpa using hsz
    have neg : ∀ x k v, ka[x]? = some (k, v) → ((valueAt kb k).isSome && e k) = false → dAns ka kb e = false := fun x k v hx hf => by
      unfold dAns
      rw [hlt2, Bool.true_and]
      cases z : ka.all fun p => (valueAt kb p.1).isSome && e p.1 with
      | false => rfl
      | true =>
        have := List.all_eq_true.mp z (k, v) (List.mem_of_getElem? hx)
        rw [hf] at this
        cases this
    have posi : (∀ (j : Nat) (p : K × Value), ka[j]? = some p → ((valueAt kb p.1).isSome && e p.1) = true) → dAns ka kb e = true := fun hx => by
      unfold dAns
      rw [hlt2, Bool.true_and]
      refine List.all_eq_true.mpr fun p hp => ?_
      obtain ⟨j, hj⟩ := List.mem_iff_getElem?.mp hp
      exact hx j p hj
    rw [if_neg (by rw [hsz]; simp)]
    refine wpAny_bind (wpAny_dictEpoch hoa hda ?_)
    refine wpAny_bind ?_
    rw [Std.Legacy.Range.forIn_eq_forIn_range']
    simp only [Std.Legacy.Range.size, Nat.sub_zero, Nat.add_sub_cancel, Nat.div_one]
    refine wpAny_forIn_list _
      (fun rest q s' => q = (none, ()) ∧ ∃ i, rest = List.range' i (es.size - i) ∧ i ≤ es.size ∧ (∀ (j : Nat) (p : K × Value), j < i → ka[j]? = some p → ((valueAt kb p.1).isSome && e p.1) = true) ∧ I i s')
      _ ?_ ?_ _ _ ⟨rfl, 0, by simp, Nat.zero_le _, fun j p hj => absurd hj (Nat.not_lt_zero j), h0⟩
    · rintro x rest q s' ⟨rfl, i, hr, hi, hpre, hI⟩
      obtain ⟨hoa', hob'⟩ := sa' _ _ hI
      have hlt : i < es.size := by
        rcases Nat.lt_or_ge i es.size with h | h
        · exact h
        · rw [Nat.sub_eq_zero_of_le h] at hr; simp at hr
      obtain ⟨rfl, hrest⟩ : x = i ∧ rest = List.range' (i + 1) (es.size - (i + 1)) := by
        have e : es.size - i = (es.size - (i + 1)) + 1 := by omega
        rw [e, List.range'_succ] at hr
        injection hr with h1 h2
        exact ⟨h1, h2⟩
      refine wpAny_bind (wpAny_dictEntries hoa' hda ?_)
      rw [Array.getElem?_eq_getElem hlt]
      have hlt' : x < ka.length := by rw [hla]; exact hlt
      obtain ⟨k, v, hkv⟩ : ∃ k v, ka[x] = (k, v) := ⟨_, _, rfl⟩
      have hget : ka[x]? = some (k, v) := by rw [List.getElem?_eq_getElem hlt', hkv]
      obtain ⟨hkey, hval⟩ := hpa.get? (i := x) (e := es[x]) (k := k) (v := v) (by rw [Array.getElem?_toList]; exact Array.getElem?_eq_getElem hlt) hget
      obtain ⟨k', hk', hh⟩ := hka es[x] (Array.getElem_mem hlt)
      have ekk : k' = k := knd.inj _ _ _ hk' hkey
      rw [ekk] at hh
      show wpAny _ _ (holding [es[x].key, es[x].val] _ >>= _) _ _ _
      rw [hh]
      refine wpAny_bind (wpAny_holding (wpAny_bind (wpAny_dictFind_of hkey hob' hdb hkb ?_)))
      cases hj : es'.findIdx? fun e => knd.is k e.key with
      | none =>
        have hn : valueAt kb k = none := by rw [← hfind k, findBy_of_findIdx?, hj]
        have out := ends _ _ hI
        rw [neg x k v hget (by rw [hn]; rfl)] at out
        refine wpAny_pure ?_
        show wpAny _ _ (if (!false) = true then _ else _) _ _ _
        rw [if_pos (by decide)]
        exact wpAny_pure (wpAny_pure out)
      | some j =>
        obtain ⟨hjlt, _, _⟩ := Array.findIdx?_eq_some_iff_getElem.mp hj
        have hv' : valueAt kb k = some es'[j].val := by
          rw [← hfind k, findBy_of_findIdx?, hj]
          simp [Array.getElem?_eq_getElem hjlt]
        refine wpAny_bind (wpAny_dictEntries hob' hdb ?_)
        rw [Array.getElem?_eq_getElem hjlt]
        have pr := pair x k v _ s' hget hv' hI
        rw [← hval] at pr
        refine wpAny_holding (wpAny_mono pr (fun r s2 ⟨er, hI2⟩ => ?_) fun _ _ z => z)
        subst er
        cases he : e k with
        | false =>
          have out := ends _ _ hI2
          rw [neg x k v hget (by rw [he, Bool.and_false])] at out
          show wpAny _ _ (if (!false) = true then _ else _) _ _ _
          rw [if_pos (by decide)]
          exact wpAny_pure (wpAny_pure out)
        | true =>
          show wpAny _ _ (if (!true) = true then _ else _) _ _ _
          rw [if_neg (by decide)]
          refine wpAny_bind (wpAny_dictEpoch (sa' _ _ hI2).1 hda ?_)
          rw [if_neg (by simp)]
          refine wpAny_pure ⟨rfl, x + 1, hrest, hlt, fun j' p hj' hp => ?_, hI2⟩
          by_cases z : j' = x
          · rw [z, hget] at hp
            cases hp
            rw [hv', he]
            rfl
          · exact hpre j' p (by omega) hp
    · rintro q s' ⟨rfl, i, hr, hi, hpre, hI⟩
      have hin : i = es.size := by
        rcases Nat.lt_or_ge i es.size with h | h
        · have e : es.size - i = (es.size - (i + 1)) + 1 := by omega
          rw [e, List.range'_succ] at hr; exact nomatch hr
        · exact Nat.le_antisymm hi h
      have out := ends _ _ hI
      rw [posi (fun j p hp => hpre j p (by
        have := (List.getElem?_eq_some_iff.mp hp).1
        omega) hp)] at out
      exact wpAny_pure out
theorem rc_dict_any {a b : Addr} {ka kb : List (K × Value)} {e : K → Bool} {Q : Value → Shared → Prop} (I : Nat → Shared → Prop) (ha : (a == sysModules) = false) (hb : (b == sysModules) = false)
    (da : s.heap.DictOf knd a ka) (db : s.heap.DictOf knd b kb) (hu : A.units < cLine) (sa : ∀ i s', I i s' → s'.heap.get? a = s.heap.get? a ∧ s'.heap.get? b = s.heap.get? b)
    (pair : ∀ i k v y s', ka[i]? = some (k, v) → valueAt kb k = some y → I i s' → wpAny (model prog w) A.in1 (eqBool v y) (fun r s2 => r = e k ∧ I (i + 1) s2) E s')
    (ends : ∀ i s', I i s' → Q (.bool (dAns ka kb e)) s') (h0 : I 0 s) : wpAny (model prog w) A (richCompare .Eq (.ref a) (.ref b)) Q E s := by
  refine wpAny_richCompare_same_room (op := .Eq) da.typeIs db.typeIs PySem.F.slot_dict_eq (wpAny_call_entry PySem.F.slot_dict_eq da.typeIs PySem.F.entry_dict_eq ?_ (PySem.F.args_dict_eq_2 _ _)) hu
  show wpAny _ _ (Builtin.Dict.dictSlotArgs "__eq__" ⟨[.ref a, .ref b], []⟩ >>= _) _ _ s
  refine wpAny_bind ?_
  unfold Builtin.Dict.dictSlotArgs
  refine wpAny_bind (wpAny_notOrdered_dict da.typeIs ?_)
  show wpAny _ _ (pure (Value.ref a, Value.ref b)) _ _ s
  refine wpAny_pure ?_
  refine wpAny_bind (wpAny_isInstance (T := "dict") db.typeIs PySem.F.sub_dict_dict ?_)
  simp only [Bool.not_true, Bool.false_eq_true, if_false]
  refine wpAny_bind (wpAny_pure (wpAny_bind (wpAny_pure ?_)))
  refine wpAny_bind (samePairsB (Q := fun r s' => Q (.bool r) s') I ha hb da db sa pair (fun i s' h => ends i s' h) h0 |> fun z => wpAny_mono z (fun r s' q => ?_) fun _ _ z => z)
  refine wpAny_pure ⟨_, rfl, ?_, ?_⟩
  · exact fun x => nomatch x
  · simpa using q
end
end FsQ
namespace FsQ
open PySem PySem.Spec PyProof.Rows L2
/-- two dicts, their values by D; f tells each key's answer -/
def CDict (D : Cmp) : Cmp := fun x y b H => ∃ (a c : Addr) (kvs ws : List (Key × V)) (f : Key → Bool), x = .ref a ∧ y = .ref c ∧ H a = some (.dK kvs) ∧ H c = some (.dK ws) ∧ (∀ k v y, (k, v) ∈ kvs → valV ws k = some y → D v y (f k) H) ∧
  b = (kvs.length == ws.length && kvs.all fun p => (valV ws p.1).isSome && f p.1)
/-- a dict that is locked changes no answer -/
def LockB (D : Cmp) : Prop := ∀ x y b H d o kvs, H d = some (.dK kvs) → D x y b H → D x y b (upd H d (.frz o (.dK kvs)))
theorem dAns_eq {kvs ws : List (Key × V)} {vs us : List (Key × Value)} {f : Key → Bool} (h1 : KV kvs vs) (h2 : KV ws us) : dAns vs us f = (kvs.length == ws.length && kvs.all fun p => (valV ws p.1).isSome && f p.1) := by
  unfold dAns
  rw [← h1.length, ← h2.length]
  have e : ∀ k, (valueAt us k).isSome = (valV ws k).isSome := fun k => by
    have r := h2.val k
    cases z1 : valV ws k with
    | none =>
      rw [z1] at r
      cases z2 : valueAt us k with
      | none => rfl
      | some u =>
        rw [z2] at r
        exact r.elim
    | some y =>
      rw [z1] at r
      cases z2 : valueAt us k with
      | none =>
        rw [z2] at r
        exact r.elim
      | some u => rfl
  have e2 : (vs.all fun p => (valueAt us p.1).isSome && f p.1) = ((vs.map (·.1)).all fun k => (valV ws k).isSome && f k) := by
    rw [List.all_map]
    congr 1
    funext p
    show _ = ((valV ws p.1).isSome && f p.1)
    rw [e]
  have e3 : (kvs.all fun p => (valV ws p.1).isSome && f p.1) = ((kvs.map (·.1)).all fun k => (valV ws k).isSome && f k) := by
    rw [List.all_map]
    rfl
  rw [e2, e3, h1.keys]
section
variable {X : Cx} {n : Nat} {D : Cmp}
theorem rcB_dict (hD : MonB D) (hL : LockB D) (h : EqB X n D) : RcB X (n + 1) (CDict D) := by
  intro A pins s σ H x y u v b sb I rx ry ⟨a, c, kvs, ws, f, ex, ey, ha, hc, hd, hb⟩
  subst ex ey
  cases rx
  cases ry
  by_cases hac : a = c
  · subst hac
    rw [ha] at hc
    cases hc
    obtain ⟨oa, I2⟩ := I.lock ha trivial
    have nf1 := I.nofrz ha trivial
    have hD2 : ∀ k v y, (k, v) ∈ kvs → valV kvs k = some y → D v y (f k) (upd H a (.frz oa (.dK kvs))) := fun k v y hm hv => hL _ _ _ _ _ _ _ ha (hd k v y hm hv)
    have back : ∀ H', Ext (upd H a (.frz oa (.dK kvs))) H' → Ext H (upd H' a (.dK kvs)) := fun H' e z o hz => by
      by_cases z1 : z = a
      · rw [z1, upd_same]
        rw [z1, ha] at hz
        exact hz
      · rw [upd_ne z1]
        exact e _ _ (by rw [upd_ne z1]; exact hz)
    have fa : (upd H a (.frz oa (.dK kvs))) a = some (.frz oa (.dK kvs)) := upd_same
    generalize upd H a (.frz oa (.dK kvs)) = H2 at I2 hD2 back fa
    obtain ⟨g1, _, hs1, vs1, kv1, D1⟩ := I2.hok a _ fa
    refine rc_dict_any (e := f) (fun _ s' => LoopI X pins σ H2 s') hs1 hs1 D1 D1 sb.room.units0 (fun i s' ⟨H', I', e'⟩ => ?_) (fun i k v y s' hget hv ⟨H1, I1', e1⟩ => ?_) (fun i s' ⟨H', I', e'⟩ => ?_) ⟨H2, I2, Ext.rfl'⟩
    · obtain ⟨q1, _⟩ := I'.hok a _ (e' _ _ fa)
      exact ⟨q1.trans g1.symm, q1.trans g1.symm⟩
    · have pg : ∃ xv, kvs[i]? = some (k, xv) ∧ RelV xv v := by
        have hk := Paired.length kv1
        have hi : i < kvs.length := by
          have := (List.getElem?_eq_some_iff.mp hget).1
          omega
        obtain ⟨q, hq, e1, e2⟩ := paired_get kv1 (List.getElem?_eq_getElem hi)
        rw [hget] at hq
        cases hq
        refine ⟨kvs[i].2, ?_, e2⟩
        rw [List.getElem?_eq_getElem hi, ← show kvs[i].1 = k from e1]
      obtain ⟨xv, hx, rx⟩ := pg
      have r := kv1.val k
      rw [hv] at r
      cases z : valV kvs k with
      | none =>
        rw [z] at r
        exact r.elim
      | some yv =>
        rw [z] at r
        refine wpAny_mono (h A.in1 pins s' σ H1 _ _ _ _ (f k) sb.in1 I1' rx r (hD _ _ _ _ _ e1 (hD2 k xv yv (List.mem_of_getElem? hx) z))) (fun t s2 ⟨ht, H3, I3, x3⟩ => ⟨ht, H3, I3, e1.trans x3⟩) fun _ _ z => z
    · have J1 := I'.unlock (e' _ _ fa) nf1
      exact ⟨by rw [dAns_eq kv1 kv1, hb], _, J1, back _ e'⟩
  · obtain ⟨oa, I1⟩ := I.lock ha trivial
    have hc1 : (upd H a (.frz oa (.dK kvs))) c = some (.dK ws) := by rw [upd_ne (Ne.symm hac)]; exact hc
    obtain ⟨oc, I2⟩ := I1.lock hc1 trivial
    have nf1 := I.nofrz ha trivial
    have nf2 := I1.nofrz hc1 trivial
    have hD2 : ∀ k v y, (k, v) ∈ kvs → valV ws k = some y → D v y (f k) (upd (upd H a (.frz oa (.dK kvs))) c (.frz oc (.dK ws))) := fun k v y hm hv => hL _ _ _ _ _ _ _ hc1 (hL _ _ _ _ _ _ _ ha (hd k v y hm hv))
    have back : ∀ H', Ext (upd (upd H a (.frz oa (.dK kvs))) c (.frz oc (.dK ws))) H' → Ext H (upd (upd H' c (.dK ws)) a (.dK kvs)) := fun H' e z o hz => by
      by_cases z1 : z = a
      · rw [z1, upd_same]
        rw [z1, ha] at hz
        exact hz
      · rw [upd_ne z1]
        by_cases z2 : z = c
        · rw [z2, upd_same]
          rw [z2, hc] at hz
          exact hz
        · rw [upd_ne z2]
          exact e _ _ (by rw [upd_ne z2, upd_ne z1]; exact hz)
    have fa : (upd (upd H a (.frz oa (.dK kvs))) c (.frz oc (.dK ws))) a = some (.frz oa (.dK kvs)) := by rw [upd_ne hac, upd_same]
    have fc : (upd (upd H a (.frz oa (.dK kvs))) c (.frz oc (.dK ws))) c = some (.frz oc (.dK ws)) := upd_same
    generalize upd (upd H a (.frz oa (.dK kvs))) c (.frz oc (.dK ws)) = H2 at I2 hD2 back fa fc
    obtain ⟨g1, _, hs1, vs1, kv1, D1⟩ := I2.hok a _ fa
    obtain ⟨g2, _, hs2, vs2, kv2, D2⟩ := I2.hok c _ fc
    refine rc_dict_any (e := f) (fun _ s' => LoopI X pins σ H2 s') hs1 hs2 D1 D2 sb.room.units0 (fun i s' ⟨H', I', e'⟩ => ?_) (fun i k v y s' hget hv ⟨H1, I1', e1⟩ => ?_) (fun i s' ⟨H', I', e'⟩ => ?_) ⟨H2, I2, Ext.rfl'⟩
    · obtain ⟨q1, _⟩ := I'.hok a _ (e' _ _ fa)
      obtain ⟨q2, _⟩ := I'.hok c _ (e' _ _ fc)
      exact ⟨q1.trans g1.symm, q2.trans g2.symm⟩
    · have pg : ∃ xv, kvs[i]? = some (k, xv) ∧ RelV xv v := by
        have hk := Paired.length kv1
        have hi : i < kvs.length := by
          have := (List.getElem?_eq_some_iff.mp hget).1
          omega
        obtain ⟨q, hq, e1, e2⟩ := paired_get kv1 (List.getElem?_eq_getElem hi)
        rw [hget] at hq
        cases hq
        refine ⟨kvs[i].2, ?_, e2⟩
        rw [List.getElem?_eq_getElem hi, ← show kvs[i].1 = k from e1]
      obtain ⟨xv, hx, rx⟩ := pg
      have r := kv2.val k
      rw [hv] at r
      cases z : valV ws k with
      | none =>
        rw [z] at r
        exact r.elim
      | some yv =>
        rw [z] at r
        refine wpAny_mono (h A.in1 pins s' σ H1 _ _ _ _ (f k) sb.in1 I1' rx r (hD _ _ _ _ _ e1 (hD2 k xv yv (List.mem_of_getElem? hx) z))) (fun t s2 ⟨ht, H3, I3, x3⟩ => ⟨ht, H3, I3, e1.trans x3⟩) fun _ _ z => z
    · have J1 := I'.unlock (e' _ _ fc) nf2
      have J2 := J1.unlock (d := a) (od := oa) (u := .dK kvs) (by rw [upd_ne hac]; exact e' _ _ fa) nf1
      exact ⟨by rw [dAns_eq kv1 kv2, hb], _, J2, back _ e'⟩
end
end FsQ

set_option Elab.async false
set_option linter.all false
set_option maxRecDepth 100000
set_option maxHeartbeats 4000000
/-! a != b of instances of one own class that has __eq__ and no __ne__ of its own. -/
namespace FsR
open PySem PySem.W PySem.Spec PyProof.Rows L2 Evl FsQ
theorem ne_bind (self : Value) : bindSpecial (.builtin "object.__ne__") self = pure (.builtin "object.__ne__", [self]) := PySem.F.cmp_object.ne.bind self
section
variable {prog : Program} {w : World} {A : Around} {E : Value → Shared → Prop} {K : Frag} {s : Shared} {x y C f : Addr} {ox : Obj} {od : Option Obj} {tb : Value}
theorem objNe_K (X : K.In s.heap) (I : InstAt s.heap x ox C od) (hs : findIn K (.ref C) "__eq__" = some (some (.ref f))) (hf : isFn K (.ref f) = true) (hu : A.units < cLine) {Q : Fin → Shared → Prop}
    (hcall : wpAny (model prog w) A (call (.ref f) [.ref x, .ref y]) (fun v s' => ∃ b, v = .bool b ∧ Q (.done (.ret (.bool (!b)))) s') E s) :
    wpAny (model prog w) A (Builtin.«object.__ne__» ⟨[.ref x, .ref y], []⟩) Q E s := by
  unfold Builtin.«object.__ne__»
  repeat (first
    | with_reducible refine wpAny_cRoomFor hu ?_
    | (refine wpAny_bind (m := callSpecialIfBound? (.ref x) (Str.ofString "__eq__") [.ref y])
        (ifBound_K X I hs hf (wpAny_mono hcall (fun r s' hr => by
          obtain ⟨b, rfl, hq⟩ := hr
          repeat (first | exact hq | exact wpAny_pure hq | exact wpAny_truthy_bool hq | (refine wpAny_bind (m := truthy (.bool _)) (wpAny_truthy_bool ?_)) | wp_step)) fun _ _ e => e)))
    | wp_step)
theorem tryNe_K (X : K.In s.heap) (I : InstAt s.heap x ox C od) (hs : findIn K (.ref C) "__eq__" = some (some (.ref f))) (hf : isFn K (.ref f) = true) (hn : findIn K (.ref C) "__ne__" = some (some (.builtin "object.__ne__"))) (ho : subIn K (.ref C) (.type "object") = some true)
    (hu : A.units + 1 < cLine) {Q : Option Value → Shared → Prop} (hcall : wpAny (model prog w) A.in1 (call (.ref f) [.ref x, .ref y]) (fun v s' => ∃ b, v = .bool b ∧ Q (some (.bool (!b))) s') E s) :
    wpAny (model prog w) A (tryCompare (.ref x) "__ne__" (.ref y)) Q E s := by
  have fin : wpAny (model prog w) A (call (.builtin "object.__ne__") ([.ref x] ++ [.ref y]) >>= fun v => pure (some v)) (fun r s' => ∃ b, r = some (.bool (!b)) ∧ Q (some (.bool (!b))) s') E s := by
    refine wpAny_bind (wpAny_call (codeAny_call_builtin PySem.F.cmp_object.ne.plain PySem.F.cmpEntry_ne (check_slot PySem.F.cmpKind_ne PySem.F.cmpSplit_ne (I.type.andThen (looks_subIn X ho)) (PySem.F.cmpArgs_ne _ _)
      (objNe_K (A := A.in1) X I hs hf hu (wpAny_mono hcall (fun v s' hv => ?_) fun _ _ e => e)))))
    obtain ⟨b, rfl, hq⟩ := hv
    first | exact ⟨b, rfl, wpAny_pure ⟨b, rfl, hq⟩⟩ | exact ⟨b, rfl, wpAny_pure (wpAny_pure ⟨b, rfl, hq⟩)⟩ | exact ⟨b, rfl, ⟨b, rfl, hq⟩⟩
  simp only [tryCompare]
  refine wpAny_bind ?_
  simp only [callSpecialIfBound?, bindSpecialIfBound?]
  refine wpAny_holding (wpAny_bind (wpAny_bind (wpAny_bind (I.type.here ((looks_findIn X hn).here ?_)))))
  simp only [ne_bind]
  refine wpAny_bind (wpAny_askSetting (wpAny_ite ?_))
  have fin2 := wpAny_mono fin (Q' := fun r s' => wpAny (model prog w) A (match r with | some .notImplemented | none => pure none | some v => pure (some v)) Q E s') (fun r s' z => by
    obtain ⟨b, rfl, hq⟩ := z
    exact wpAny_pure hq) fun _ _ e => e
  split
  · exact wpAny_bind (wpAny_pure (wpAny_pure fin2))
  · exact wpAny_tryCatch (wpAny_bind (wpAny_pure (wpAny_pure fin2)))
theorem richNe_K (X : K.In s.heap) (I : InstAt s.heap x ox C od) (hy : Looks (model prog w) s.heap (typeOf (.ref y)) (.ref C)) (hs : findIn K (.ref C) "__eq__" = some (some (.ref f))) (hf : isFn K (.ref f) = true) (hn : findIn K (.ref C) "__ne__" = some (some (.builtin "object.__ne__"))) (ho : subIn K (.ref C) (.type "object") = some true)
    (hu : A.units + 1 < cLine) {Q : Value → Shared → Prop} (hcall : wpAny (model prog w) A.in1 (call (.ref f) [.ref x, .ref y]) (fun v s' => ∃ b, v = .bool b ∧ Q (.bool (!b)) s') E s) :
    wpAny (model prog w) A (richCompare .NotEq (.ref x) (.ref y)) Q E s := by
  unfold richCompare
  simp only [oneThing_ref]
  refine wpAny_holding ?_
  refine wpAny_bind (wpAny_cRoomFor (Nat.lt_of_succ_lt hu) ?_)
  rw [cmpInfo_NotEq]
  dsimp only
  refine wpAny_bind (I.type.here (wpAny_bind (hy.here ?_)))
  rw [show (Value.ref C != Value.ref C) = false from by simp]
  simp only [Bool.false_eq_true, if_false]
  refine wpAny_bind (wpAny_pure ?_)
  simp only [Bool.false_eq_true, if_false]
  refine wpAny_bind (tryNe_K X I hs hf hn ho hu (wpAny_mono hcall (fun v s' hv => ?_) fun _ _ e => e))
  obtain ⟨b, rfl, hq⟩ := hv
  first | exact ⟨b, rfl, wpAny_pure hq⟩ | exact ⟨b, rfl, wpAny_pure (wpAny_pure hq)⟩
end
structure NeM (K : PySem.W.Frag) (C : Addr) (g : Addr) : Prop extends EqM K C g where
  ne : PySem.W.findIn K (.ref C) "__ne__" = some (some (.builtin "object.__ne__"))
  ob : PySem.W.subIn K (.ref C) (.type "object") = some true
/-- x != y -/
def rNeB (D : Cmp) : R2 := fun x y H Q => ∃ b, D x y b H ∧ ∀ H', Ext H H' → Q (.bl (!b)) H'
theorem op_neB {X : Cx} {n : Nat} {CX : CXT} {C f : Addr} {fd : FuncData} {ps : List Str} {R : Addr → Addr → Bool → Hp → Prop} {E : XK} (M : NeM X.K C f) (F : FnOk X.prog X.w X.K X.mg X.base CX n f fd ps (spEqB R)) (hr : Room (n + 1) X.A) (hb : Binds X.K fd ps []) (hx : Passes CX X E) :
    OpR X (compareOp .NotEq) (rNeB (CIns C R)) := by
  intro pins s σ H x y v u Q I rx ry ⟨b, d, q⟩
  obtain ⟨a, c, dx, dy, fs, gs, ex, ey, ha, hc, hr'⟩ := d
  subst ex ey
  cases rx
  cases ry
  obtain ⟨_, J, _⟩ := ins_get I.hok ha
  obtain ⟨_, J', _⟩ := ins_get I.hok hc
  obtain ⟨_, J, _⟩ := J.look
  obtain ⟨_, J', _⟩ := J'.look
  have sb : Sub X n X.A.in1 := (Sub.in1 (n := n) ⟨hr, rfl⟩)
  show wpAny _ _ (richCompare .NotEq _ _) _ _ _
  refine richNe_K I.kIn J J'.type M.at_ M.fn M.ne M.ob (by have := hr.units; omega) ?_
  have sp : spEqB R [.ref a, .ref c] H (fun v H' => v = .bl b ∧ Ext H H') E := ⟨a, c, b, rfl, hr', fun H' e => ⟨rfl, e⟩⟩
  have e0 := I.env0
  have e1 : Env0 X.prog X.w X.K X.mg X.base X.A.in1 X.stack s H := ⟨sb.fr.trans e0.frames, e0.mod, e0.bs, e0.bsz, e0.funs, e0.frf, e0.hok, e0.bare⟩
  have two : [Value.ref a, Value.ref c].length = ps.length := F.len _ _ _ _ sp
  have bnd := hb s [.ref a, .ref c] I.kIn (by rw [List.append_nil]; exact two)
  rw [List.append_nil] at bnd
  refine wpAny_call (codeAny_mono (F.run X.A.in1 X.stack s H ⟨[.ref a, .ref c], []⟩ [.ref a, .ref c] [.ref a, .ref c] _ E sb.room e1 bnd (.cons rfl (.cons rfl .nil)) sp) fun r s' hq => ?_)
  cases r with
  | error z => exact hx pins σ H s z s' I hq
  | ok fl =>
    cases fl with
    | ret t =>
      obtain ⟨z, H', I', rz, ez, ext⟩ := I.after hq
      subst ez
      cases rz
      exact ⟨b, rfl, .bl (!b), H', I', rfl, q H' ext⟩
    | next => exact False.elim hq
    | brk => exact False.elim hq
    | cont => exact False.elim hq
end FsR

set_option Elab.async false
set_option linter.all false
set_option maxRecDepth 100000
set_option maxHeartbeats 2000000
/-! name = [e for k in d if ..], the dict locked meanwhile; reads of a dict that may be locked -/
namespace FsE
open PySem L2 Evl
section
variable {K : PySem.W.Frag} {σ : L2.St} {H : Hp} {ta tb tc te : TE} {x y z : V} {D : Ends}
theorem el_lcK {d : Addr} {o : Obj} {kvs : List (Key × V)} {tl : TE} {j : Nat} {vs : List Nat} {t : TT} (f : Nat → Bool) (v : Nat → V) (h : Ev tl σ H (.ref d)) (hx : H d = some (.frz o (.dK kvs))) (hz : kvs.length ≤ 40000) (hw : ∀ x, wipe ((wipe σ vs).set j (some x)) vs = wipe σ vs)
    (ht : ∀ (i : Nat) (k : Key) (u : V) H1, Ex H H1 → kvs[i]? = some (k, u) → EvT t ((wipe σ vs).set j (some (kV k))) H1 (f i)) (he : ∀ (i : Nat) (k : Key) (u : V) H1, Ex H H1 → kvs[i]? = some (k, u) → f i = true → Ev te ((wipe σ vs).set j (some (kV k))) H1 (v i)) :
    EvL (tLc (iKeys tl) (gName j) t te vs) σ H (given kvs.length f v) := fun H0 e Q q => h H0 e _ fun H1 e1 => ⟨d, o, rfl, .inl ⟨kvs, (e.trans e1) _ _ hx, fun Dl hD =>
  lc_it walk_keys (Cw H1 f v Dl) ⟨hD, Ex.new hD, upd_same⟩ (fun _ _ _ p => ((e.trans e1).trans p.2.1) _ _ hx) (fun i x H' H2 hi p y => by
    obtain ⟨rfl, k, u, hk, rfl⟩ := y
    exact ⟨hw _, cw_turn p (by omega) (ht i k u H1 (e.trans e1) hk) (fun hf => he i k u H1 (e.trans e1) hk hf)⟩)
    (fun H' p => q Dl H' (fresh_back e1 p.1) (e1.trans p.2.1) p.2.2)⟩⟩
theorem s_lockLc {d : Addr} {kvs : List (Key × V)} {xs : List V} {i : Nat} (hd : H d = some (.dK kvs)) (h : ∀ od, EvL te σ (upd H d (.frz od (.dK kvs))) xs)
    (k : ∀ p H2, H p = none → Ex H H2 → H2 p = some (.lst xs) → D.nx (σ.set i (some (.ref p))) H2) : tLock (tAsg te (gName i)) D σ H :=
  ⟨d, .dK kvs, hd, trivial, fun od => h od _ (Ex.refl _) _ fun p H2 hp e2 h2 => by
    have hpd : p ≠ d := fun z => by
      rw [z, upd_same] at hp
      cases hp
    rw [upd_ne hpd] at hp
    refine ⟨e2 _ _ upd_same, k p _ hp (fun c o hc => ?_) (by rw [upd_ne hpd]; exact h2)⟩
    by_cases z : c = d
    · rw [z] at hc ⊢
      rw [upd_same, ← hd, hc]
    · rw [upd_ne z]
      exact e2 _ _ (by rw [upd_ne z]; exact hc)⟩
theorem given_filter (g : Str → Bool) (ns : List Str) : given ns.length (fun i => g (ns.getD i "")) (fun i => V.str (ns.getD i "")) = (ns.filter g).map V.str := by
  have e : (List.range ns.length).map (fun i => ns.getD i "") = ns := by
    refine List.ext_getElem? fun i => ?_
    rw [List.getElem?_map]
    by_cases hi : i < ns.length
    · rw [List.getElem?_range hi, List.getElem?_eq_getElem hi]
      show some (ns.getD i "") = some ns[i]
      rw [List.getD_eq_getElem?_getD, List.getElem?_eq_getElem hi]
      rfl
    · rw [List.getElem?_eq_none (by rw [List.length_range]; omega), List.getElem?_eq_none (by omega)]
      rfl
  have e2 : (ns.filter g).map V.str = (((List.range ns.length).map (fun i => ns.getD i "")).filter g).map V.str := by rw [e]
  rw [e2, List.filter_map, List.map_map]
  rfl
/-- a dict that may be locked -/
theorem ev_dinR {d : Addr} {kvs : List (Key × V)} {key : Key} (hk : Ev tb σ H (kV key)) (h : Ev ta σ H (.ref d)) (hd : ∀ H1, Ex H H1 → Rd H1 d (.dK kvs)) : Ev (tDIn tb ta) σ H (.bl (valV kvs key).isSome) := fun H1 e Q q =>
  hk H1 e _ fun H2 e2 => h H2 (e.trans e2) _ fun H3 e3 => ⟨d, _, rfl, .inl ⟨kvs, key, hd _ ((e.trans e2).trans e3), rfl, rfl⟩, q H3 (e2.trans e3)⟩
theorem ev_dgetR {d : Addr} {kvs : List (Key × V)} {key : Key} {v : V} (h : Ev ta σ H (.ref d)) (hk : Ev tb σ H (kV key)) (hd : ∀ H1, Ex H H1 → Rd H1 d (.dK kvs)) (hv : valV kvs key = some v) : Ev (tDGet ta tb) σ H v := fun H1 e Q q =>
  h H1 e _ fun H2 e2 => hk H2 (e.trans e2) _ fun H3 e3 => ⟨d, v, rfl, .inl ⟨kvs, key, hd _ ((e.trans e2).trans e3), rfl, hv.symm⟩, q H3 (e2.trans e3)⟩
theorem rd_ex {H H' : Hp} {d : Addr} {u : HO} (e : Ex H H') (h : Rd H d u) : Rd H' d u := h.imp (fun z => e _ _ z) fun ⟨o, z⟩ => ⟨o, e _ _ z⟩
end
end FsE

set_option Elab.async false
set_option linter.all false
set_option maxRecDepth 100000
set_option maxHeartbeats 2000000
/-! a op b of two own classes; i op b, b's class reflected; x op= b by the own method. -/
namespace PySem.W
open PySem PyProof.Rows
section
variable {prog : Program} {w : World} {A : Around} {E : Value → Shared → Prop} {s : Shared} {K : Frag} {x y C D L f : Addr} {h₀ : Heap} {m : Str → Option Value} {ox oy : Obj} {od oe : Option Obj} {nm : Str} {dx : Addr}
/-- own classes' operators: the left one's comes first -/
theorem mix_bin {op : Operator} {g : Addr} {Q : Value → Shared → Prop} (F : Fr h₀ L s.heap m) (X₀ : K.In h₀) (I : InstAt s.heap x ox C od) (J : InstAt s.heap y oy D oe) (hc : selfFirst K C = true) (hd : selfFirst K D = true) (hne : C ≠ D)
    (hs : findIn K (.ref C) (PySem.dunder op.info.2) = some (some (.ref f))) (hf : isFn K (.ref f) = true) (hr : findIn K (.ref C) (dunderR op.info.2) = some none)
    (hs2 : findIn K (.ref D) (PySem.dunder op.info.2) = some (some (.ref g))) (hr2 : findIn K (.ref D) (dunderR op.info.2) = some none) (hsub : subIn K (.ref D) (.ref C) = some false)
    (h : wpAny (model prog w) A (call (.ref f) [.ref x, .ref y]) (CmpBack Q) E s) : wpAny (model prog w) A (binaryOp op (.ref x) (.ref y)) Q E s := by
  have X := X₀.keeps F.keep
  obtain ⟨cd, rest, hcd, hm⟩ := ksp_first hc
  obtain ⟨dd, rest2, hdd, hm2⟩ := ksp_first hd
  rcases hi : op.info with ⟨sym, nm'⟩
  rw [hi] at hs hr hs2 hr2
  dsimp only at hs hr hs2 hr2
  have one := ksp_try X I hs hf h
  obtain ⟨hh, gg, d, tt, os⟩ := s
  have L1 : Looks (model prog w) hh (typeOf (.ref x)) (.ref C) := I.type
  have L2 : Looks (model prog w) hh (typeOf (.ref y)) (.ref D) := J.type
  have L3 : Looks (model prog w) hh (fillsNumberSlot (.ref C) nm') true := fills_K X hcd hm hs
  have L4 : Looks (model prog w) hh (fillsNumberSlot (.ref D) nm') true := fills_K X hdd hm2 hs2
  have L5 : Looks (model prog w) hh (isSubtype (.ref D) (.ref C)) false := looks_subIn X hsub
  have L6 : Looks (model prog w) hh (numberSlotInPython (.ref C) nm') true := ksp_inPy X hs hr (.inl rfl)
  have L7 : Looks (model prog w) hh (numberSlotInPython (.ref D) nm') true := ksp_inPy X hs2 hr2 (.inl rfl)
  have L8 : Looks (model prog w) hh (typeLookup (.ref D) (dunderR nm')) none := looks_findIn X hr2
  have L9 : Looks (model prog w) hh (typeLookup (.ref C) (dunderR nm')) none := looks_findIn X hr
  have L10 : Looks (model prog w) hh (typeLookup (.ref D) (PySem.dunder nm')) (some (.ref g)) := looks_findIn X hs2
  have L11 : Looks (model prog w) hh (typeLookup (.ref C) (PySem.dunder nm')) (some (.ref f)) := looks_findIn X hs
  have hne' : (Value.ref C == Value.ref D) = false := Bool.eq_false_iff.mpr fun q => hne (by cases beq_iff_eq.mp q; rfl)
  simp only [binaryOp, hi]
  refine wpAny_holding (wpAny_bind ?_)
  unfold binaryOp1
  refine wpAny_bind (L1.at (wpAny_bind (L2.at (wpAny_bind (L3.at ?_)))))
  simp only [hne', Bool.false_eq_true, if_false]
  ksp_lk
  refine wpAny_mono one (fun r s' hr' => ?_) fun _ _ e => e
  obtain ⟨v, rfl, hq⟩ := hr'
  ksp_lk
  exact hq
theorem int_mul_own {i : Int} {t : Tok} {Q : Value → Shared → Prop} (X : K.In s.heap) (J : InstAt s.heap y (instObj D dx) D oe) (hsub : subIn K (.ref D) (.type "int") = some false) (h : Q .notImplemented s) : wpAny (model prog w) A (call (.builtin "int.__mul__") [.int i t, .ref y]) Q E s := by
  refine call_meets F.slot_int_mul (typeIs_int s i t) F.entry_int_mul (F.args_int_mul_2 _ _) (S := fun A R s => (K.In s.heap ∧ InstAt s.heap y (instObj D dx) D oe) ∧ R (.ok (.ret .notImplemented)) s) ?_ ⟨⟨X, J⟩, h⟩
  intro prog w A R s h
  obtain ⟨hp, g, d, tk, os⟩ := s
  obtain ⟨⟨X, J⟩, h⟩ := h
  have L2 : Looks (model prog w) hp (typeOf (.ref y)) (.ref D) := J.type
  have L5 : Looks (model prog w) hp (isSubtype (.ref D) (.type "int")) false := looks_subIn X hsub
  have hg : Heap.get? (Shared.heap ⟨hp, g, d, tk, os⟩) y = some (instObj D dx) := J.at_
  wp_walk
  exact h
theorem fills_R {M : Model} {nr : String} {cd : ClassData} {rest : List Value} (X : K.In s.heap) (hcd : clsIn K D = some cd) (hm : cd.mro = .ref D :: rest) (h1 : findIn K (.ref D) (PySem.dunder nr) = some none) (hr : findIn K (.ref D) (dunderR nr) = some (some (.ref f))) : Looks M s.heap (fillsNumberSlot (.ref D) nr) true := by
  intro A Q E s' k q
  unfold fillsNumberSlot
  refine wpAny_bind ((looks_clsIn X hcd).andThen (f := fun cd => pure cd.mro) .now A _ E s' k ?_)
  rw [hm, List.anyM_cons]
  refine wpAny_bind ?_
  show wpAny M A (List.anyM _ [PySem.dunder nr, dunderR nr]) _ _ _
  rw [List.anyM_cons]
  refine wpAny_bind (wpAny_bind (looks_findIn X h1 A _ E s' k ?_))
  dsimp only
  refine wpAny_pure ?_
  rw [if_neg (by decide), List.anyM_cons]
  refine wpAny_bind (wpAny_bind (looks_findIn X hr A _ E s' k ?_))
  dsimp only
  rw [if_pos (show (!ownNameWrapper (.ref f) (dunderR nr)) = true from rfl)]
  refine wpAny_pure ?_
  rw [if_pos rfl]
  refine wpAny_pure ?_
  rw [if_pos rfl]
  exact wpAny_pure q
/-- i * b by b's __rmul__ -/
theorem mix_rmul {i : Int} {t : Tok} {Q : Value → Shared → Prop} (F : Fr h₀ L s.heap m) (X₀ : K.In h₀) (J : InstAt s.heap y (instObj D dx) D oe) (hd : selfFirst K D = true) (h1 : findIn K (.ref D) (PySem.dunder "mul") = some none)
    (hr : findIn K (.ref D) (dunderR "mul") = some (some (.ref f))) (hf : isFn K (.ref f) = true) (hsub : subIn K (.ref D) (.type "int") = some false)
    (h : wpAny (model prog w) A (call (.ref f) [.ref y, .int i t]) (CmpBack Q) E s) : wpAny (model prog w) A (binaryOp .Mult (.int i t) (.ref y)) Q E s := by
  have X := X₀.keeps F.keep
  obtain ⟨dd, rest2, hdd, hm2⟩ := ksp_first hd
  have one := ksp_try X J hr hf h
  have no := int_mul_own (prog := prog) (w := w) (A := A) (E := E) (i := i) (t := t) (s := s) X J hsub (Q := fun v s' => v = .notImplemented ∧ s' = s) ⟨rfl, rfl⟩
  have L4 : Looks (model prog w) s.heap (fillsNumberSlot (.ref D) "mul") true := fills_R X hdd hm2 h1 hr
  obtain ⟨hh, gg, d, tt, os⟩ := s
  have L1 : Looks (model prog w) hh (typeOf (.int i t)) (.type "int") := Looks.of_pure rfl
  have L2 : Looks (model prog w) hh (typeOf (.ref y)) (.ref D) := J.type
  have L3 : Looks (model prog w) hh (fillsNumberSlot (.type "int") "mul") true := Looks.of_pure _root_.PySem.F.fills_int_mul
  have L5 : Looks (model prog w) hh (isSubtype (.ref D) (.type "int")) false := looks_subIn X hsub
  have L7 : Looks (model prog w) hh (numberSlotInPython (.type "int") "mul") false := Looks.of_pure rfl
  have L8 : Looks (model prog w) hh (typeLookup (.ref D) (dunderR "mul")) (some (.ref f)) := looks_findIn X hr
  have L9 : Looks (model prog w) hh (typeLookup (.ref D) (PySem.dunder "mul")) none := looks_findIn X h1
  have hne : (Value.type "int" == Value.ref D) = false := Bool.eq_false_iff.mpr fun q => by cases beq_iff_eq.mp q
  obtain ⟨sym, hi⟩ : ∃ sym, Operator.Mult.info = (sym, "mul") := ⟨_, rfl⟩
  simp only [binaryOp, hi]
  refine wpAny_holding (wpAny_bind ?_)
  unfold binaryOp1
  refine wpAny_bind (L1.at (wpAny_bind (L2.at (wpAny_bind (L3.at ?_)))))
  simp only [hne, Bool.false_eq_true, if_false]
  ksp_lk
  have ed : PySem.dunder "mul" = ("__mul__" : Str) := by decide +kernel
  rw [ed]
  refine wpAny_tryMethod_declines (T := "int") (name := "__mul__") (id := "int.__mul__") (typeIs_int _ i t) _root_.PySem.F.slot_int_mul ?_
  refine wpAny_mono no (fun v s' hv => ⟨hv.1, ?_⟩) fun _ _ e => e
  have hs' := hv.2
  subst hs'
  simp only [Bool.false_eq_true, if_false, Bool.not_false, Bool.and_self, if_true]
  refine wpAny_bind (wpAny_mono one (fun r s' hr' => ?_) fun _ _ e => e)
  obtain ⟨v, rfl, hq⟩ := hr'
  exact wpAny_bind (wpAny_rule (wpAny_pure (wpAny_pure hq)))
end
end PySem.W
namespace FsR
open PySem PySem.Spec PyProof.Rows L2 Evl
structure OpMix (K : PySem.W.Frag) (C D : Addr) (op : Operator) (g : Addr) : Prop where
  fst : PySem.W.selfFirst K C = true
  fst2 : PySem.W.selfFirst K D = true
  ne : C ≠ D
  at_ : PySem.W.findIn K (.ref C) (PySem.dunder op.info.2) = some (some (.ref g))
  fn : PySem.W.isFn K (.ref g) = true
  rv : PySem.W.findIn K (.ref C) (dunderR op.info.2) = some none
  at2 : ∃ g2 : Addr, PySem.W.findIn K (.ref D) (PySem.dunder op.info.2) = some (some (.ref g2))
  rv2 : PySem.W.findIn K (.ref D) (dunderR op.info.2) = some none
  sub : PySem.W.subIn K (.ref D) (.ref C) = some false
/-- a op b, a of C, b of D -/
def tOwnD (C D : Addr) (sp : Sp) (E : L2.St → XK) (ta tb : TE) : TE := fun σ H Q => ta σ H fun x H1 => tb σ H1 fun y H2 => ∃ (a b dx dy : Addr) (fs gs : List (Str × V)), x = .ref a ∧ y = .ref b ∧ H2 a = some (.ins C dx fs) ∧ H2 b = some (.ins D dy gs) ∧ sp [.ref a, .ref b] H2 Q (E σ)
theorem fin_own {X : Cx} {pins : List (Addr × Obj)} {σ : L2.St} {Q : VK} {w : Value} {s' : Shared} (h : EP X pins σ Q w s') : PySem.W.CmpBack (EP X pins σ Q) w s' := by
  obtain ⟨y, H', J, r, q'⟩ := h
  have fin : EP X pins σ Q w s' := ⟨y, H', J, r, q'⟩
  cases w with
  | notImplemented => exact no_notimpl r
  | _ => exact fin
section
variable {X : Cx} {CX : CXT} {k : Nat} {C D g : Addr} {fd : FuncData} {ps : List Str} {sp : Sp} {E : L2.St → XK} {ea eb : Expr} {op : Operator} {pos : Pos} {ta tb : TE}
theorem pe_ownD (ha : PE X ea ta) (hb : PE X eb tb) (M : OpMix X.K C D op g) (F : FnOk X.prog X.w X.K X.mg X.base CX k g fd ps sp) (hr : Room k X.A) (hd : Binds X.K fd ps []) (hx : ∀ σ, PassesAt CX X σ (E σ)) : PE X (.BinOp ea op eb pos) (tOwnD C D sp E ta tb) := by
  refine ⟨fun pins s σ H Q I h => wpAny_BinOp (binT ha hb I h fun v u s2 x y H2 I2 rx ry q => ?_)⟩
  obtain ⟨a, b, dx, dy, fs, gs, rfl, rfl, h1, h2, q⟩ := q
  obtain rfl : v = Value.ref a := rx
  obtain rfl : u = Value.ref b := ry
  obtain ⟨_, O1, _⟩ := ins_get I2.hok h1
  obtain ⟨_, O2, _⟩ := ins_get I2.hok h2
  obtain ⟨_, i1, _⟩ := O1.look
  obtain ⟨_, i2, _⟩ := O2.look
  obtain ⟨m, fr⟩ := I2.fr
  obtain ⟨g2, hg2⟩ := M.at2
  exact PySem.W.mix_bin fr I2.ok.mod.kin i1 i2 M.fst M.fst2 M.ne M.at_ M.fn M.rv hg2 M.rv2 M.sub (wpAny_mono (run_fnS (us := [.ref a, .ref b]) (vs := [.ref a, .ref b]) F hr hd (hx σ) I2 (.cons rfl (.cons rfl .nil)) q) (fun w s' hw => fin_own hw) fun _ _ z => z)
structure RmM (K : PySem.W.Frag) (D g : Addr) : Prop where
  fst : PySem.W.selfFirst K D = true
  no : PySem.W.findIn K (.ref D) (PySem.dunder "mul") = some none
  at_ : PySem.W.findIn K (.ref D) (dunderR "mul") = some (some (.ref g))
  fn : PySem.W.isFn K (.ref g) = true
  sub : PySem.W.subIn K (.ref D) (.type "int") = some false
/-- i * b -/
def tRmul (D : Addr) (sp : Sp) (E : L2.St → XK) (ta tb : TE) : TE := fun σ H Q => ta σ H fun x H1 => tb σ H1 fun y H2 => ∃ (i : Int) (b dy : Addr) (gs : List (Str × V)), x = .int i ∧ y = .ref b ∧ H2 b = some (.ins D dy gs) ∧ sp [.ref b, .int i] H2 Q (E σ)
theorem pe_rmul (ha : PE X ea ta) (hb : PE X eb tb) (M : RmM X.K D g) (F : FnOk X.prog X.w X.K X.mg X.base CX k g fd ps sp) (hr : Room k X.A) (hd : Binds X.K fd ps []) (hx : ∀ σ, PassesAt CX X σ (E σ)) : PE X (.BinOp ea .Mult eb pos) (tRmul D sp E ta tb) := by
  refine ⟨fun pins s σ H Q I h => wpAny_BinOp (binT ha hb I h fun v u s2 x y H2 I2 rx ry q => ?_)⟩
  obtain ⟨i, b, dy, gs, rfl, rfl, h2, q⟩ := q
  obtain ⟨t, rfl⟩ := rx
  obtain rfl : u = Value.ref b := ry
  obtain ⟨_, O2, _⟩ := ins_get I2.hok h2
  obtain ⟨_, i2, _⟩ := O2.look
  obtain ⟨m, fr⟩ := I2.fr
  exact PySem.W.mix_rmul fr I2.ok.mod.kin i2 M.fst M.no M.at_ M.fn M.sub (wpAny_mono (run_fnS (us := [.ref b, .int i t]) (vs := [.ref b, .int i]) F hr hd (hx σ) I2 (.cons rfl (.cons ⟨t, rfl⟩ .nil)) q) (fun w s' hw => fin_own hw) fun _ _ z => z)
structure InM (K : PySem.W.Frag) (C : Addr) (op : Operator) (g : Addr) : Prop where
  fst : PySem.W.selfFirst K C = true
  at_ : PySem.W.findIn K (.ref C) (dunderI op.info.2) = some (some (.ref g))
  fn : PySem.W.isFn K (.ref g) = true
/-- x op= e, x's class defines it -/
def tAugO (C : Addr) (sp : Sp) (E : L2.St → XK) (i : Nat) (te : TE) : TS := fun D σ H => ∃ x, σ[i]? = some (some x) ∧ te σ H fun y H1 => ∃ (a dx : Addr) (fs : List (Str × V)), x = .ref a ∧ H1 a = some (.ins C dx fs) ∧ sp [.ref a, y] H1 (fun z H2 => D.nx (σ.set i (some z)) H2) (E σ)
theorem ps_augO {i : Nat} {x : Str} {e : Expr} {te : TE} {pos' : Pos} (hN : X.N.Nodup) (hi : X.N[i]? = some x) (hx : Loc X.env.scope x) (he : PE X e te) (M : InM X.K C op g) (F : FnOk X.prog X.w X.K X.mg X.base CX k g fd ps sp) (hr : Room k X.A) (hd : Binds X.K fd ps []) (hp : ∀ σ, PassesAt CX X σ (E σ))
    (hf : X.fn x = true ∨ X.env.scope.names.lookup x = some .local := by first | exact .inl rfl | exact .inr rfl | assumption) : PS X (.AugAssign (.Name x pos') op e pos) (tAugO C sp E i te) := by
  refine ⟨fun pins s σ H D I h => ?_⟩
  obtain ⟨v, e1, h⟩ := h
  obtain ⟨m, hn, hl⟩ := I.loc
  have vis : Vis X.env.scope x := hx.elim .inl fun k => .inr (.inl k)
  obtain ⟨u, r, l⟩ := hl i x v hi e1 vis
  refine wpAny_AugAssign_Name ?_
  have go : wpAny (model X.prog X.w) X.A (eval e X.env) (fun w s₂ => wpAny (model X.prog X.w) X.A (inplaceOp op u w) (fun r s₃ => wpAny (model X.prog X.w) X.A (storeName X.env x r) (fun _ => SP X pins D .next) X.xe s₃) X.xe s₂) X.xe s := by
    refine thn (he.run pins s σ H _ I h) fun w s1 ⟨y, H1, I1, r1, a, dx, fs, ex, h1, q⟩ => ?_
    subst ex
    obtain rfl : u = Value.ref a := r
    obtain ⟨_, O1, _⟩ := ins_get I1.hok h1
    obtain ⟨_, i1, _⟩ := O1.look
    obtain ⟨m1, fr⟩ := I1.fr
    refine thn (PySem.W.ksp_inplace (Q := EP X pins σ fun z H2 => D.nx (σ.set i (some z)) H2) fr I1.ok.mod.kin i1 M.fst M.at_ M.fn (wpAny_mono (run_fnS (us := [.ref a, w]) (vs := [.ref a, y]) F hr hd (hp σ) I1 (.cons rfl (.cons r1 .nil)) q) (fun w s' hw => fin_own hw) fun _ _ z => z)) fun z s2 ⟨zv, H2, I2, r2, q2⟩ => ?_
    exact store_ok I2 hN hi hx r2 (fun s3 I3 => ⟨_, H2, I3, q2⟩) hf
  rcases l with ⟨hk, hm⟩ | ⟨hk, c, hc, hcell⟩
  · exact wpAny_loadName_local I.ok.kind hk hn hm go
  · rcases hk with hk | hk
    · exact wpAny_loadName_cell I.ok.kind hk hc hcell go
    · have hk' : X.env.scope.names.lookup x = some .free := hk
      rcases hx with z | z <;> (rw [hk'] at z; cases z)
end
end FsR

set_option Elab.async false
set_option linter.all false
set_option maxRecDepth 100000
set_option maxHeartbeats 8000000
/-! books: ==, |, |= -/
namespace Fs
open PySem L2 Evl FsE FsC FsR FsA FsD FsU FsK FsT FsQ
/-- what the text has told of a class, for isinstance -/
structure IsT (K : PySem.W.Frag) (C : Addr) : Prop where
  cl : Cls K C
  ha : PySem.W.findIn K (.ref C) "__class__" = some (some (.builtin "object.__class__"))
  hn : PySem.W.specialIn K (.builtin "object.__class__") "__get__" = some (some (.builtin "getset_descriptor.__get__"))
  htk : PySem.W.takesIn K (.builtin "object.__class__") = some true
  hm : PySem.W.mroIn K C (.type "object") = some true
theorem tyx_own {K : PySem.W.Frag} {C : Addr} (T : IsT K C) {H : Hp} {a dx : Addr} {fs : List (Str × V)} (h : H a = some (.ins C dx fs)) : ∀ H1, Ex H H1 → TyX K H1 (.ref a) (.ref C) := fun H1 e => .base (.ins (e _ _ h) T.cl T.ha T.hn T.htk T.hm)
/-- definitions whose first body is of depth d at most -/
def RDf (CD C : Addr) (d : Nat) (a c : Addr) (b : Bool) (H : Hp) : Prop := ∃ ns ms b1 b2 p q, DfAt CD H a ns b1 ∧ DfAt CD H c ms b2 ∧ PrAt C H b1 p ∧ PrAt C H b2 q ∧ p.depth ≤ (d : Int) ∧ b = (same ns ms && same p q)
theorem RDf.ext {CD C : Addr} {d : Nat} {a c : Addr} {b : Bool} {H H' : Hp} (e : Ext H H') (h : RDf CD C d a c b H) : RDf CD C d a c b H' := by
  obtain ⟨ns, ms, b1, b2, p, q, h1, h2, h3, h4, h5, h6⟩ := h
  exact ⟨ns, ms, b1, b2, p, q, h1.ex e, h2.ex e, h3.ex e, h4.ex e, h5, h6⟩
theorem DfAt.uniq {CD : Addr} {H : Hp} {a b c : Addr} {ns ms : List Str} (h : DfAt CD H a ns b) (g : DfAt CD H a ms c) : ns = ms ∧ b = c := by
  obtain ⟨dx, t, h1, h2⟩ := h
  obtain ⟨dy, u, g1, g2⟩ := g
  rw [h1] at g1
  cases g1
  rw [h2] at g2
  have e : ns.map V.str = ms.map V.str := by
    have := Option.some.inj g2
    injection this
  exact ⟨map_inj (fun _ _ z => by cases z; rfl) e, rfl⟩
theorem RDf.self {CD C : Addr} {d : Nat} {a : Addr} {b : Bool} {H : Hp} (h : RDf CD C d a a b H) : b = true := by
  obtain ⟨ns, ms, b1, b2, p, q, h1, h2, h3, h4, h5, h6⟩ := h
  obtain ⟨rfl, rfl⟩ := h1.uniq h2
  rw [h6, h3.uniq h4, same_self, same_self]
  rfl
theorem depth_call {f : Str} {ops : List Opd} : (Pr.call f ops).depth ≤ ((1 : Nat) : Int) := by
  rw [Pr.depth]
  decide
theorem rdf_dk {CD C : Addr} {H : Hp} {v y : V} {k q : Int} (h : DkAt CD C H v k) (g : DkAt CD C H y q) : CIns CD (RDf CD C 1) v y (decide (k = q)) H := by
  obtain ⟨hk, a, b1, rfl, h1, h2⟩ := h
  obtain ⟨hq, c, b2, rfl, g1, g2⟩ := g
  obtain ⟨dx, t, x1, x2⟩ := id h1
  obtain ⟨dy, u, y1, y2⟩ := id g1
  refine ⟨a, c, dx, dy, _, _, rfl, rfl, x1, y1, _, _, b1, b2, _, _, h1, g1, h2, g2, depth_call, ?_⟩
  refine Bool.eq_iff_iff.mpr ?_
  rw [decide_eq_true_eq, Bool.and_eq_true, same_iff, same_iff]
  refine ⟨fun e => by rw [e]; exact ⟨rfl, rfl⟩, fun ⟨e1, e2⟩ => pm_bm hk hq e1 ?_⟩
  injection e2 with _ e2
  injection e2 with e2 _
  injection e2
section
variable {P : Program} {w : World} {K : PySem.W.Frag} {mg : Str → Option Value} {base : Heap} {C CB CK CN CD : Addr}
theorem scDfEq : FnScope ["self", "other"] ["self", "other"] (defScope (inClass (topS 22) 1)) := ⟨rfl, rfl, rfl, by decide +kernel, rfl, by decide +kernel, by decide +kernel⟩
theorem ok_dfeq {f g : Addr} {fd gd : FuncData} {d n : Nat} (hn : 1 ≤ n) (F : Fun K "__eq__" "Definition.__eq__" (inClass (topS 22) 1) f fd) (hi : mg "isinstance" = none) (T : DfT K mg CD) (I : IsT K CD) (GE : FnOk P w K mg base CX0 n g gd ["self", "other"] (spEqB (RPrB C d))) (at_ : PySem.W.findIn K (.ref C) "__eq__" = some (some (.ref g))) (fn : PySem.W.isFn K (.ref g) = true) (hb : Binds K gd ["self", "other"] []) :
    FnOk P w K mg base CX0 (n + 1) f fd ["self", "other"] (spEqB (RDf CD C d)) := by
  refine F.ok scDfEq (fun vs H Q E h => ?_) (fun cdv A outer s H vs Q E hr h => ?_)
  · obtain ⟨a, c, b, rfl, _⟩ := h
    rfl
  · obtain ⟨a, c, b, rfl, ⟨ns, ms, b1, b2, p, q, ⟨dx, t, x1, x2⟩, ⟨dy, u, y1, y2⟩, hp, hq, hd, hbb⟩, k⟩ := h
    refine ⟨_, pss_one (ps_ret (pe_and (pe_callB (id := "isinstance") (r := rIsi K) call_isi (by rfl) hi (by decide +kernel) (pa_cons (pv 1) (pa_cons (pe_glob (v := .ref CD) (by rfl) T.mgD rfl) pa_nil)))
      (pe_and (pe_cmpR (op_eqB (n := 1) (D := CTup CFlat) (rcB_tup monB_flat eqB_flat) (hr.mono hn)) (pe_fld (pv 0) rfl) (pe_fld (pv 1) rfl) (nomark _))
      (pe_one (pe_cmpR (op_eqB (n := n) (D := CIns C (RPrB C d)) (rcB_ins GE at_ fn hb pass0) hr) (pe_fld (pv 0) rfl) (pe_fld (pv 1) rfl) (nomark _)))))), ?_⟩
    refine s_ret (v := .bl b) (ev_is (ev_andV (a := true) (b := same ns ms && same p q) (ev_cb (ea_cons (ev_var rfl) (ea_cons ev_c ea_nil)) (rc_isiOwn (tyx_own I y1) kOwn)) (fun _ => ev_andV (a := same ns ms) (b := same p q) ?_ (fun _ => ?_))) (by rw [hbb, Bool.true_and])) k
    · refine ev_op (ev_fld (ev_var rfl) x1 T.cl T.nP df_params) (ev_fld (ev_var rfl) y1 T.cl T.nP df_params) (fun H1 e1 Q' q' => ?_)
      obtain ⟨bs, z1, z2⟩ := zip_fl (H := H1) (fun _ _ => bf_str) ns ms
      exact ⟨same ns ms, ⟨t, u, _, _, bs, rfl, rfl, e1 _ _ x2, e1 _ _ y2, z1, z2.symm⟩, fun H2 e2 => q' H2 e2⟩
    · refine ev_op (ev_fld (ev_var rfl) x1 T.cl T.nB df_body) (ev_fld (ev_var rfl) y1 T.cl T.nB df_body) (fun H1 e1 Q' q' => ?_)
      obtain ⟨t1, _, ⟨dz, k1⟩, _⟩ := hp.out
      obtain ⟨t2, _, ⟨dw, k2⟩, _⟩ := hq.out
      exact ⟨same p q, ⟨b1, b2, dz, dw, _, _, rfl, rfl, e1 _ _ k1, e1 _ _ k2, p, q, hd, hp.ex e1, hq.ex e1, rfl⟩, fun H2 e2 => q' H2 e2⟩
/-- united -/
def spUni (CB CN CD C : Addr) : Sp := fun vs H Q E => ∃ (a b : Addr) (kvs wvs : List (Key × V)) (ns ms : List Str) (ks qs : List Int), vs = [.ref a, .ref b] ∧ H a = some (.dK kvs) ∧ H b = some (.dK wvs) ∧ Tab CD C H kvs ns ks ∧ Tab CD C H wvs ms qs ∧ ns.length ≤ 12 ∧ ms.length ≤ 12 ∧
  JOut CB CN ns ks ms qs H E (∀ r kv2 H', Ex H H' → H' r = some (.dK kv2) → Tab CD C H' kv2 (jn ns ks ms qs).1 (jn ns ks ms qs).2 → Q (.ref r) H')
abbrev nsUni : List Str := ["one", "other", "clashes", "name"]
theorem scUni : FnScope nsUni ["one", "other"] (defScope (topS 25)) := ⟨rfl, rfl, rfl, by decide +kernel, rfl, by decide +kernel, by decide +kernel⟩
/-- the comprehension's test -/
abbrev tUni (CD C : Addr) : TT := tAnd (tB (tDIn (tVar 3) (tVar 1))) (tB (tOp (rNeB (CIns CD (RDf CD C 1))) (tDGet (tVar 0) (tVar 3)) (tDGet (tVar 1) (tVar 3))))
theorem Rd.upd_ne {H : Hp} {a d : Addr} {u o : HO} (h : H a = some u) (hne : a ≠ d) : Rd (upd H d o) a u := .inl (by rw [L2.upd_ne hne]; exact h)
theorem ok_uni {f g : Addr} {fd gd : FuncData} {n k : Nat} (hn : n + 1 ≤ k) (F : Fun K "united" "united" (topS 25) f fd) (hmin : mg "min" = none) (NM : NeM K CD g) (GD : FnOk P w K mg base CX0 n g gd ["self", "other"] (spEqB (RDf CD C 1))) (BD : Binds K gd ["self", "other"] []) (GL : CalX P w K mg base (L2.CX P w) k "limited" (spLim CB)) (R : RaisesX P w K mg base "Clash" CN "name" k) :
    FnOk P w K mg base (L2.CX P w) (k + 1) f fd ["one", "other"] (spUni CB CN CD C) := by
  refine F.okX scUni (fun vs H Q E h => ?_) (fun cdv A outer s H vs Q E hr h => ?_)
  · obtain ⟨a, b, kvs, wvs, ns, ms, ks, qs, rfl, _⟩ := h
    rfl
  · obtain ⟨a, b, kvs, wvs, ns, ms, ks, qs, rfl, ha, hb, ta, tb, ln, lm, J⟩ := h
    refine ⟨_, pss_cons (ps_lock (ps_setLc (i := 2) (own := [("name", 3)]) (g := gName 3) (tt := tUni CD C) (te := tVar 3) rfl scUni.nd rfl rfl (sw_true rfl rfl rfl (by decide +kernel)) (pi_keys (pv 0))
          (blkOk_by (own := [("name", 3)]) (N := nsUni) (sc := defScope (topS 25)) (by decide +kernel))
          (fun _ _ _ _ _ => pg_name (i := 3) scUni.nd rfl (Or.inl rfl)) (fun _ _ _ _ _ => pts_one (PW.pt (pw_and (pt_cmp (pc_din (hu_of hr) (pv 3) (pv 1))) (pw_and1 (pt_cmpR (op_neB (E := E0) NM GD (hr.mono hn) BD pass0) (pe_dget (hu_of hr) (pv 0) (pv 3) (fun _ _ => rfl)) (pe_dget (hu_of hr) (pv 1) (pv 3) (fun _ _ => rfl)) (nomark _))))))
          (fun _ _ _ _ _ => pv 3)))
      (pss_cons (ps_if (pt_truth (pv 2) (fun _ => rfl))
          (pss_one (ps_raise (W := fun cls d _ H => E cls d H) rfl (takes_of rfl rfl rfl rfl) (R _ rfl rfl rfl rfl rfl hr _ _ _ _ (pa_cons (pe_callB (cr_minS rfl (hu2_of hr)) (by rfl) hmin (by decide +kernel) (pa_cons (pv 2) pa_nil)) pa_nil) (by rfl) (by rfl) (by rfl)))) pss_nil)
      (pss_one (ps_ret (pe_cx (E := WE (fun cls d _ H => E cls d H)) GL hr (Nat.le_refl _) (by rfl) (fun σ => passAt (takes_of rfl rfl rfl rfl) σ) (pa_cons (pe_star2 (pv 0) (pv 1)) pa_nil))))), ?_⟩
    let g : Str → Bool := fun z => decide (z ∈ ms) && !decide (mkOf ns ks z = mkOf ms qs z)
    have hcl : ∀ z, z ∈ ns.filter g ↔ z ∈ clR ns ks ms qs := fun z => by
      rw [List.mem_filter, mem_clR tb.nd tb.l2 ta.l2]
      show z ∈ ns ∧ (decide (z ∈ ms) && !decide (mkOf ns ks z = mkOf ms qs z)) = true ↔ _
      rw [Bool.and_eq_true, decide_eq_true_eq, Bool.not_eq_true', decide_eq_false_iff_not]
    refine s_lockLc (D := _) (kvs := kvs) (xs := (ns.filter g).map V.str) ha (fun od => ?_) (fun p H2 hp e2 h2 => ?_)
    · have ext : ExC CD H (upd H a (.frz od (.dK kvs))) ∧ ExC C H (upd H a (.frz od (.dK kvs))) := by
        refine ⟨⟨fun c dx fs hc => ?_, fun c xs hc => ?_⟩, ⟨fun c dx fs hc => ?_, fun c xs hc => ?_⟩⟩ <;>
        · rw [L2.upd_ne (fun z => by rw [z, ha] at hc; cases hc)]
          exact hc
      have ta1 := ta.keepC ext.1 ext.2
      have tb1 := tb.keepC ext.1 ext.2
      have ra : ∀ H1, Ex (upd H a (.frz od (.dK kvs))) H1 → Rd H1 a (.dK kvs) := fun H1 e => .inr ⟨od, e _ _ upd_same⟩
      have rb : ∀ H1, Ex (upd H a (.frz od (.dK kvs))) H1 → Rd H1 b (.dK wvs) := fun H1 e => by
        by_cases z : b = a
        · rw [z, ha] at hb
          cases hb
          rw [z]
          exact ra H1 e
        · exact .inl (e _ _ (by rw [L2.upd_ne z]; exact hb))
      have l1 := ta.l1
      rw [← given_filter, ← l1]
      refine el_lcK (fun i => g (ns.getD i "")) (fun i => V.str (ns.getD i "")) (ev_var rfl) upd_same (by omega) (fun x => rfl) (fun i key u H1 e1 hk => ?_) (fun i key u H1 e1 hk hf => ?_)
      · have hi : i < ns.length := by
          have := (List.getElem?_eq_some_iff.mp hk).1
          omega
        have hz : ns[i]? = some (ns.getD i "") := by rw [List.getD_eq_getElem?_getD, List.getElem?_eq_getElem hi]; rfl
        generalize ns.getD i "" = z at hz
        have hkey : key = .inr z := by
          have e := congrArg (fun l => l[i]?) ta.keys
          simp only [List.getElem?_map, hk, hz, Option.map_some] at e
          exact Option.some.inj e
        subst hkey
        have t2 := ta1.ex e1
        have t3 := tb1.ex e1
        obtain ⟨j, v, k1, j1, j2, j3, j4⟩ := t2.get (List.mem_of_getElem? hz)
        have m1 : mkOf ns ks z = k1 := mkOf_at ta.nd j1 j3
        refine et_is (et_and (a := decide (z ∈ ms)) (b := !decide (mkOf ns ks z = mkOf ms qs z)) (et_is (et_B (ev_dinR (key := .inr z) (ev_var rfl) (ev_var rfl) (fun H9 e9 => rb H9 (e1.trans e9)))) tb.has) (fun hm => ?_)) rfl
        have hm := of_decide_eq_true hm
        obtain ⟨j', y, k2, i1, i2, i3, i4⟩ := t3.get hm
        have m2 : mkOf ms qs z = k2 := mkOf_at tb.nd i1 i3
        rw [m1, m2]
        refine et_B (ev_op (x := v) (y := y) (ev_dgetR (key := .inr z) (ev_var rfl) (ev_var rfl) (fun H9 e9 => ra H9 (e1.trans e9)) j2) (ev_dgetR (key := .inr z) (ev_var rfl) (ev_var rfl) (fun H9 e9 => rb H9 (e1.trans e9)) i2) (fun H9 e9 Q9 q9 => ?_))
        exact ⟨decide (k1 = k2), rdf_dk (j4.ex e9) (i4.ex e9), fun H' e' => q9 H' e'⟩
      · have hi : i < ns.length := by
          have := (List.getElem?_eq_some_iff.mp hk).1
          omega
        have hz : ns[i]? = some (ns.getD i "") := by rw [List.getD_eq_getElem?_getD, List.getElem?_eq_getElem hi]; rfl
        have hkey : key = .inr (ns.getD i "") := by
          have e := congrArg (fun l => l[i]?) ta.keys
          simp only [List.getElem?_map, hk, hz, Option.map_some] at e
          exact Option.some.inj e
        rw [hkey]
        exact ev_var rfl
    · have hE : (ns.filter g = []) ↔ clR ns ks ms qs = [] := by
        refine ⟨fun z => List.eq_nil_iff_forall_not_mem.mpr fun y hy => ?_, fun z => List.eq_nil_iff_forall_not_mem.mpr fun y hy => ?_⟩
        · have := (hcl y).mpr hy
          rw [z] at this
          exact nomatch this
        · have := (hcl y).mp hy
          rw [z] at this
          exact nomatch this
      dsimp only
      refine q_when (b := !(((ns.filter g).map V.str).isEmpty)) (fun H3 e3 Q3 q3 => ⟨_, rfl, _, .inl ⟨_, sq_of (e3 _ _ h2), rfl⟩, q3 H3 (Ex.refl H3)⟩) (fun hb3 H3 e3 => ?_) (fun hb3 H3 e3 => ?_)
      · have hne : ns.filter g ≠ [] := fun z => by
          rw [z] at hb3
          cases hb3
        refine ⟨_, rfl, p, ns.filter g, rfl, sq_of (e3 _ _ h2), hne, fun m hm => ?_⟩
        have hm2 : Least m (clR ns ks ms qs) := ⟨(hcl m).mp hm.1, fun y hy => hm.2 y ((hcl y).mpr hy)⟩
        have hg := ta.nm m (List.mem_filter.mp hm.1).1
        refine ⟨m, rfl, by have := hg.2.1; omega, fun d' hd' => ?_⟩
        exact J.bad m hm2 d' _ ((e2.trans e3).trans (Ex.new hd')) (fresh_back (e2.trans e3) hd') upd_same
      · have hnil : clR ns ks ms qs = [] := hE.mp (by
          cases z : ns.filter g with
          | nil => rfl
          | cons y ys =>
            rw [z] at hb3
            cases hb3)
        have x3 := e2.trans e3
        have t3 := ta.ex x3
        have u3 := tb.ex x3
        have tm := t3.merge u3.keys u3.vals u3.nm hnil
        have hz12 := tm.l1
        refine fun d hd => ⟨_, rfl, a, kvs, rfl, ne_of_none (x3 _ _ ha) hd, upd_same, by rw [L2.upd_ne (ne_of_none (x3 _ _ ha) hd)]; exact x3 _ _ ha, by have := ta.l1; omega, ?_⟩
        refine ⟨_, rfl, b, wvs, rfl, ne_of_none (x3 _ _ hb) hd, upd_same, by rw [L2.upd_ne (ne_of_none (x3 _ _ hb) hd), L2.upd_ne (ne_of_none (x3 _ _ hb) hd)]; exact x3 _ _ hb, by have := tb.l1; omega, ?_⟩
        rw [mergeK_nil ta.ndk]
        have x4 : ∀ o1 o2 o3 : HO, Ex H (upd (upd (upd H3 d o1) d o2) d o3) := fun o1 o2 o3 => Ex.mut (Ex.mut (Ex.mut x3 (fresh_back x3 hd)) (fresh_back x3 hd)) (fresh_back x3 hd)
        refine ⟨d, _, rfl, upd_same, fun hl12 H5 e5 => ?_, fun hl12 => (J.big hnil (by rw [← hz12]; exact hl12)).ex (x4 _ _ _)⟩
        exact J.ok hnil (by rw [← hz12]; exact hl12) d _ H5 ((x4 _ _ _).trans e5) (e5 _ _ upd_same) ((tm.ex (Ex.mut (Ex.mut (Ex.mut (Ex.refl H3) hd) hd) hd)).ex e5)
end
end Fs

set_option Elab.async false
set_option linter.all false
set_option maxRecDepth 100000
set_option maxHeartbeats 8000000
/-! books: |, |=, == -/
namespace Fs
open PySem L2 Evl FsE FsC FsR FsA FsD FsU FsK FsT FsQ
theorem nd_len : ∀ {ns ms : List Str}, ns.Nodup → (∀ z ∈ ns, z ∈ ms) → ns.length ≤ ms.length
  | [], ms, _, _ => Nat.zero_le _
  | z :: ns, ms, nd, h => by
    obtain ⟨n1, n2⟩ := List.nodup_cons.mp nd
    have hz := h z (List.mem_cons_self ..)
    have l := List.length_erase_of_mem hz
    have p : 0 < ms.length := List.length_pos_of_mem hz
    have := nd_len (ns := ns) (ms := ms.erase z) n2 fun y hy => (List.mem_erase_of_ne (by rintro rfl; exact n1 hy)).mpr (h y (List.mem_cons_of_mem _ hy))
    rw [List.length_cons]
    omega
theorem nd_back : ∀ {ns ms : List Str}, ns.Nodup → (∀ z ∈ ns, z ∈ ms) → ms.length ≤ ns.length → ∀ z ∈ ms, z ∈ ns
  | [], ms, _, _, hl, z, hz => by
    have := List.length_pos_of_mem hz
    rw [List.length_nil] at hl
    omega
  | x :: ns, ms, nd, h, hl, z, hz => by
    obtain ⟨n1, n2⟩ := List.nodup_cons.mp nd
    have hx := h x (List.mem_cons_self ..)
    have l := List.length_erase_of_mem hx
    by_cases e : z = x
    · rw [e]
      exact List.mem_cons_self ..
    · rw [List.length_cons] at hl
      exact List.mem_cons_of_mem _ (nd_back (ns := ns) (ms := ms.erase x) n2 (fun y hy => (List.mem_erase_of_ne (by rintro rfl; exact n1 hy)).mpr (h y (List.mem_cons_of_mem _ hy))) (by omega) z ((List.mem_erase_of_ne e).mpr hz))
/-- the same names, with the same marks -/
def Agree (ns : List Str) (ks : List Int) (ms : List Str) (qs : List Int) : Prop := (∀ z, z ∈ ns ↔ z ∈ ms) ∧ ∀ z ∈ ns, mkOf ns ks z = mkOf ms qs z
def RBk (CK CD C : Addr) (a c : Addr) (b : Bool) (H : Hp) : Prop := ∃ ns ks ms qs, BT CK CD C H a ns ks ∧ BT CK CD C H c ms qs ∧ (b = true ↔ Agree ns ks ms qs)
theorem agree_b {ns ms : List Str} {ks qs : List Int} (hn : ns.Nodup) (hm : ms.Nodup) {b : Bool} (h : (b = true ↔ (ns.length = ms.length ∧ ∀ z ∈ ns, z ∈ ms ∧ mkOf ns ks z = mkOf ms qs z))) : b = true ↔ Agree ns ks ms qs := by
  rw [h]
  refine ⟨fun ⟨h1, h2⟩ => ⟨fun z => ⟨fun hz => (h2 z hz).1, nd_back hn (fun y hy => (h2 y hy).1) (by omega) z⟩, fun z hz => (h2 z hz).2⟩, fun ⟨h1, h2⟩ => ⟨?_, fun z hz => ⟨(h1 z).mp hz, h2 z hz⟩⟩⟩
  have l1 := nd_len hn fun z hz => (h1 z).mp hz
  have l2 := nd_len hm fun z hz => (h1 z).mpr hz
  omega
theorem lock_df {CD C : Addr} : LockB (CIns CD (RDf CD C 1)) := fun x y b H d o kvs hd h => by
  have ext : ∀ X, ExC X H (upd H d (.frz o (.dK kvs))) := fun X => ⟨fun c dx fs hc => by
    rw [L2.upd_ne (fun z => by rw [z, hd] at hc; cases hc)]
    exact hc, fun c xs hc => by
    rw [L2.upd_ne (fun z => by rw [z, hd] at hc; cases hc)]
    exact hc⟩
  obtain ⟨a, c, dx, dy, fs, gs, rfl, rfl, h1, h2, ns, ms, b1, b2, p, q, g1, g2, g3, g4, g5, g6⟩ := h
  exact ⟨a, c, dx, dy, fs, gs, rfl, rfl, (ext CD).ins _ _ _ h1, (ext CD).ins _ _ _ h2, ns, ms, b1, b2, p, q, g1.keepC (ext CD), g2.keepC (ext CD), g3.keepC (ext C), g4.keepC (ext C), g5, g6⟩
theorem Tab.nth {CD C : Addr} {H : Hp} {kvs : List (Key × V)} {ns : List Str} {ks : List Int} {i : Nat} {key : Key} {v : V} (t : Tab CD C H kvs ns ks) (h : kvs[i]? = some (key, v)) : ∃ z k, ns[i]? = some z ∧ key = .inr z ∧ ks[i]? = some k ∧ DkAt CD C H v k := by
  have hi := (List.getElem?_eq_some_iff.mp h).1
  have hin : i < ns.length := by rw [← t.l1]; exact hi
  have hz : ns[i]? = some ns[i] := List.getElem?_eq_getElem hin
  have hkey : key = .inr ns[i] := by
    have e := congrArg (fun l => l[i]?) t.keys
    simp only [List.getElem?_map, h, hz, Option.map_some] at e
    exact Option.some.inj e
  obtain ⟨v', k, h1, h2, h3⟩ := t.vals.at_ (i := i) (by rw [List.length_map]; exact hi)
  rw [List.getElem?_map, h] at h1
  cases h1
  exact ⟨_, k, hz, hkey, h2, h3⟩
theorem cdict_tab {CD C : Addr} {H : Hp} {a c : Addr} {kvs wvs : List (Key × V)} {ns ms : List Str} {ks qs : List Int} (ha : H a = some (.dK kvs)) (hc : H c = some (.dK wvs)) (t : Tab CD C H kvs ns ks) (u : Tab CD C H wvs ms qs) {b : Bool} (hb : b = true ↔ Agree ns ks ms qs) : CDict (CIns CD (RDf CD C 1)) (.ref a) (.ref c) b H := by
  refine ⟨a, c, kvs, wvs, fun k => match k with | .inl _ => false | .inr z => decide (mkOf ns ks z = mkOf ms qs z), rfl, rfl, ha, hc, fun key v y hm hy => ?_, ?_⟩
  · obtain ⟨i, hi⟩ := List.mem_iff_getElem?.mp hm
    obtain ⟨z, k, h1, rfl, h2, h3⟩ := t.nth hi
    have hz : z ∈ ms := by
      have := u.has (z := z)
      rw [hy] at this
      exact of_decide_eq_true this.symm
    obtain ⟨j, y', q, g1, g2, g3, g4⟩ := u.get hz
    rw [hy] at g2
    cases g2
    show CIns CD (RDf CD C 1) v y (decide (mkOf ns ks z = mkOf ms qs z)) H
    rw [mkOf_at t.nd h1 h2, mkOf_at u.nd g1 g3]
    exact rdf_dk h3 g4
  · refine Bool.eq_iff_iff.mpr (hb.trans (Iff.symm (agree_b t.nd u.nd ?_)))
    rw [Bool.and_eq_true, List.all_eq_true]
    have e1 : (kvs.length == wvs.length) = true ↔ ns.length = ms.length := by rw [beq_iff_eq, t.l1, u.l1]
    rw [e1]
    refine and_congr Iff.rfl ⟨fun h z hz => ?_, fun h p hp => ?_⟩
    · obtain ⟨j, v, k, h1, h2, h3, h4⟩ := t.get hz
      have hm : (Sum.inr z, v) ∈ kvs := by
        have e := valV_at t.keys t.nd h1
        rw [h2, List.getElem?_map] at e
        obtain ⟨p, hp, hv⟩ := Option.map_eq_some_iff.mp e.symm
        obtain ⟨z', k', g1, g2, _, _⟩ := t.nth (key := p.1) (v := p.2) hp
        rw [h1] at g1
        cases g1
        have : p = (Sum.inr z, v) := by rw [← hv, ← g2]
        rw [← this]
        exact List.mem_of_getElem? hp
      have := h _ hm
      rw [Bool.and_eq_true] at this
      have a1 : (valV wvs (.inr z)).isSome = true := this.1
      have a2 : decide (mkOf ns ks z = mkOf ms qs z) = true := this.2
      rw [u.has] at a1
      exact ⟨of_decide_eq_true a1, of_decide_eq_true a2⟩
    · obtain ⟨i, hi⟩ := List.mem_iff_getElem?.mp hp
      obtain ⟨z, k, h1, h0, h2, h3⟩ := t.nth (key := p.1) (v := p.2) hi
      obtain ⟨a1, a2⟩ := h z (List.mem_of_getElem? h1)
      rw [h0]
      show ((valV wvs (.inr z)).isSome && decide (mkOf ns ks z = mkOf ms qs z)) = true
      rw [u.has, decide_eq_true a1, decide_eq_true a2]
      rfl
theorem RBk.ext {CK CD C : Addr} {a c : Addr} {b : Bool} {H H' : Hp} (e : Ext H H') (h : RBk CK CD C a c b H) : RBk CK CD C a c b H' := by
  obtain ⟨ns, ks, ms, qs, h1, h2, h3⟩ := h
  exact ⟨ns, ks, ms, qs, h1.ex e, h2.ex e, h3⟩
theorem s_mkCall {σ : L2.St} {H : Hp} {D : Ends} {sp sp2 : Sp} {E : XK} {F : L2.St → XK} {C : Addr} {ta tb : TE} (h : ta σ H fun x H1 => tb σ H1 fun y H2 => sp2 [x, y] H2 (fun v H3 => ∀ a dx, H3 a = none → H3 dx = none → dx ≠ a → sp [.ref a, v] (upd (upd H3 dx (.own a)) a (.ins C dx [])) (fun z H4 => z = .non ∧ D.rt (.ref a) H4) E) (F σ)) : tRet (tMake C sp [] E (tCons (tCallS sp2 F (tCons ta (tCons tb tNil))) tNil)) D σ H := h
theorem s_fldCallT {σ : L2.St} {H : Hp} {D : Ends} {sp : Sp} {E : L2.St → XK} {ts : TA} {K : PySem.W.Frag} {ta : TE} {f : Str} (h : ts σ H fun vs H1 => sp vs H1 (fun v H2 => ta σ H2 fun o H3 => ∃ (a C dx : Addr) (fs : List (Str × V)), o = .ref a ∧ H3 a = some (.ins C dx fs) ∧ Cls K C ∧ NoAttr K C f ∧ fs.length < 1000 ∧ D.nx σ (upd H3 a (.ins C dx (putF f v fs)))) (E σ)) : sFld K ta (tCallS sp E ts) f D σ H := h
section
variable {P : Program} {w : World} {K : PySem.W.Frag} {mg : Str → Option Value} {base : Heap} {C CB CK CN CD : Addr}
/-- book | book -/
def spBkOr (CK CB CN CD C : Addr) : Sp := fun vs H Q E => ∃ (a b : Addr) (ns ms : List Str) (ks qs : List Int), vs = [.ref a, .ref b] ∧ BT CK CD C H a ns ks ∧ BT CK CD C H b ms qs ∧ ns.length ≤ 12 ∧ ms.length ≤ 12 ∧
  JOut CB CN ns ks ms qs H E (∀ r H', H r = none → Ex H H' → BT CK CD C H' r (jn ns ks ms qs).1 (jn ns ks ms qs).2 → Q (.ref r) H')
theorem scBkOr : FnScope ["self", "other"] ["self", "other"] (defScope (inClass (topS 23) 8)) := ⟨rfl, rfl, rfl, by decide +kernel, rfl, by decide +kernel, by decide +kernel⟩
theorem ok_bkor {f : Addr} {fd : FuncData} {k : Nat} (hk : 2 ≤ k) (F : Fun K "__or__" "Book.__or__" (inClass (topS 23) 8) f fd) (hi : mg "isinstance" = none) (T : BkT K mg CK CB) (I : IsT K CK) (MB : MakX P w K mg base CX0 1 "Book" CK (spBkInit K CK)) (GU : CalX P w K mg base (L2.CX P w) k "united" (spUni CB CN CD C)) :
    FnOk P w K mg base (L2.CX P w) (k + 1) f fd ["self", "other"] (spBkOr CK CB CN CD C) := by
  refine F.okX scBkOr (fun vs H Q E h => ?_) (fun cdv A outer s H vs Q E hr h => ?_)
  · obtain ⟨a, b, ns, ms, ks, qs, rfl, _⟩ := h
    rfl
  · obtain ⟨a, b, ns, ms, ks, qs, rfl, ⟨kvs, ⟨dx, d1, a1, a2⟩, ta⟩, ⟨wvs, ⟨dy, d2, b1, b2⟩, tb⟩, ln, lm, J⟩ := h
    refine ⟨_, pss_cons (ps_if (pt_not (pt_val (pe_callB (id := "isinstance") (r := rIsi K) call_isi (by rfl) hi (by decide +kernel) (pa_cons (pv 1) (pa_cons (pe_glob (v := .ref CK) (by rfl) T.mgK rfl) pa_nil))))) pss_never pss_nil)
      (pss_one (ps_ret (pe_mx (E := E0) MB hr (by omega) (by rfl) pass0 (pa_cons (pe_cx (E := WE (fun cls d _ H => E cls d H)) GU hr (Nat.le_refl _) (by rfl) (fun σ => passAt (takes_of rfl rfl rfl rfl) σ) (pa_cons (pe_fld (pv 0) rfl) (pa_cons (pe_fld (pv 1) rfl) pa_nil))) pa_nil)))), ?_⟩
    refine q_when (b := false) (et_is (et_not (et_B (ev_cb (ea_cons (ev_var rfl) (ea_cons ev_c ea_nil)) (rc_isiOwn (tyx_own I b1) kOwn)))) rfl) (fun z => nomatch z) (fun _ H1 e1 => ?_)
    refine s_mkCall ?_
    refine ev_fld (ev_var rfl) (e1 _ _ a1) T.cl T.nB bk_lookup H1 (Ex.refl H1) _ fun H2 e2 => ev_fld (ev_var rfl) ((e1.trans e2) _ _ b1) T.cl T.nB bk_lookup H2 (Ex.refl H2) _ fun H3 e3 => ?_
    have x3 := (e1.trans e2).trans e3
    refine ⟨d1, d2, kvs, wvs, ns, ms, ks, qs, rfl, x3 _ _ a2, x3 _ _ b2, ta.ex x3, tb.ex x3, ln, lm, J.ex x3 fun q r kv2 H4 e4 h4 t4 => ?_⟩
    intro x dz hx hdx hne
    refine ⟨x, dz, r, kv2, H4, rfl, upd_same, hx, own_ex hx hdx, .inr h4, fun H5 e5 h5 => ⟨rfl, ?_⟩⟩
    exact q x H5 (fresh_back (x3.trans e4) hx) ((x3.trans e4).trans e5) ⟨kv2, h5, t4.ex e5⟩
/-- book |= book -/
def spBkIor (CK CB CN CD C : Addr) : Sp := fun vs H Q E => ∃ (a b : Addr) (ns ms : List Str) (ks qs : List Int), vs = [.ref a, .ref b] ∧ BT CK CD C H a ns ks ∧ BT CK CD C H b ms qs ∧ ns.length ≤ 12 ∧ ms.length ≤ 12 ∧
  JOut CB CN ns ks ms qs H E (∀ H', ExB a H H' → BT CK CD C H' a (jn ns ks ms qs).1 (jn ns ks ms qs).2 → Q (.ref a) H')
theorem scBkIor : FnScope ["self", "other"] ["self", "other"] (defScope (inClass (topS 23) 9)) := ⟨rfl, rfl, rfl, by decide +kernel, rfl, by decide +kernel, by decide +kernel⟩
theorem ok_bkior {f : Addr} {fd : FuncData} {k : Nat} (nCK : CK ≠ C) (nDK : CK ≠ CD) (F : Fun K "__ior__" "Book.__ior__" (inClass (topS 23) 9) f fd) (hi : mg "isinstance" = none) (T : BkT K mg CK CB) (I : IsT K CK) (GU : CalX P w K mg base (L2.CX P w) k "united" (spUni CB CN CD C)) :
    FnOk P w K mg base (L2.CX P w) (k + 1) f fd ["self", "other"] (spBkIor CK CB CN CD C) := by
  refine F.okX scBkIor (fun vs H Q E h => ?_) (fun cdv A outer s H vs Q E hr h => ?_)
  · obtain ⟨a, b, ns, ms, ks, qs, rfl, _⟩ := h
    rfl
  · obtain ⟨a, b, ns, ms, ks, qs, rfl, ⟨kvs, ⟨dx, d1, a1, a2⟩, ta⟩, ⟨wvs, ⟨dy, d2, b1, b2⟩, tb⟩, ln, lm, J⟩ := h
    refine ⟨_, pss_cons (ps_if (pt_not (pt_val (pe_callB (id := "isinstance") (r := rIsi K) call_isi (by rfl) hi (by decide +kernel) (pa_cons (pv 1) (pa_cons (pe_glob (v := .ref CK) (by rfl) T.mgK rfl) pa_nil))))) pss_never pss_nil)
      (pss_cons (ps_fld (pv 0) (pe_cx (E := WE (fun cls d _ H => E cls d H)) GU hr (Nat.le_refl _) (by rfl) (fun σ => passAt (takes_of rfl rfl rfl rfl) σ) (pa_cons (pe_fld (pv 0) rfl) (pa_cons (pe_fld (pv 1) rfl) pa_nil))) rfl)
      (pss_one (ps_ret (pv 0)))), ?_⟩
    refine q_when (b := false) (et_is (et_not (et_B (ev_cb (ea_cons (ev_var rfl) (ea_cons ev_c ea_nil)) (rc_isiOwn (tyx_own I b1) kOwn)))) rfl) (fun z => nomatch z) (fun _ H1 e1 => ?_)
    refine s_fldCallT ?_
    refine ev_fld (ev_var rfl) (e1 _ _ a1) T.cl T.nB bk_lookup H1 (Ex.refl H1) _ fun H2 e2 => ev_fld (ev_var rfl) ((e1.trans e2) _ _ b1) T.cl T.nB bk_lookup H2 (Ex.refl H2) _ fun H3 e3 => ?_
    have x3 := (e1.trans e2).trans e3
    refine ⟨d1, d2, kvs, wvs, ns, ms, ks, qs, rfl, x3 _ _ a2, x3 _ _ b2, ta.ex x3, tb.ex x3, ln, lm, J.ex x3 fun q r kv2 H4 e4 h4 t4 => ?_⟩
    have a4 := (x3.trans e4) _ _ a1
    refine ⟨_, rfl, a, CK, dx, _, rfl, a4, T.cl, T.nB, by show 1 < 1000; decide, ?_⟩
    have hra : r ≠ a := fun z => by
      rw [z, a4] at h4
      cases h4
    refine ⟨_, rfl, ?_⟩
    have eB : ExB a H4 (upd H4 a (.ins CK dx (putF "by_name" (.ref r) [("by_name", .ref d1)]))) := ExB.upd
    have bk4 : BkAt CK H4 a kvs := ⟨dx, d1, a4, (x3.trans e4) _ _ a2⟩
    refine q _ ((ExB.of (x3.trans e4)).trans ExB.upd) ⟨kv2, ⟨dx, r, ?_, by rw [L2.upd_ne hra]; exact h4⟩, t4.keepC (eB.exC bk4 nDK) (eB.exC bk4 nCK)⟩
    rw [bk_put]
    exact upd_same
theorem scBkEq : FnScope ["self", "other"] ["self", "other"] (defScope (inClass (topS 23) 6)) := ⟨rfl, rfl, rfl, by decide +kernel, rfl, by decide +kernel, by decide +kernel⟩
theorem ok_bkeq {f g : Addr} {fd gd : FuncData} {n : Nat} (F : Fun K "__eq__" "Book.__eq__" (inClass (topS 23) 6) f fd) (hi : mg "isinstance" = none) (T : BkT K mg CK CB) (I : IsT K CK) (GD : FnOk P w K mg base CX0 n g gd ["self", "other"] (spEqB (RDf CD C 1))) (at_ : PySem.W.findIn K (.ref CD) "__eq__" = some (some (.ref g))) (fn : PySem.W.isFn K (.ref g) = true) (hb : Binds K gd ["self", "other"] []) :
    FnOk P w K mg base CX0 (n + 2) f fd ["self", "other"] (spEqB (RBk CK CD C)) := by
  refine F.ok scBkEq (fun vs H Q E h => ?_) (fun cdv A outer s H vs Q E hr h => ?_)
  · obtain ⟨a, c, b, rfl, _⟩ := h
    rfl
  · obtain ⟨a, c, b, rfl, ⟨ns, ks, ms, qs, ⟨kvs, ⟨dx, d1, a1, a2⟩, ta⟩, ⟨wvs, ⟨dy, d2, b1, b2⟩, tb⟩, hbb⟩, k⟩ := h
    refine ⟨_, pss_one (ps_ret (pe_and (pe_callB (id := "isinstance") (r := rIsi K) call_isi (by rfl) hi (by decide +kernel) (pa_cons (pv 1) (pa_cons (pe_glob (v := .ref CK) (by rfl) T.mgK rfl) pa_nil)))
      (pe_one (pe_cmpR (op_eqB (n := n + 1) (D := CDict (CIns CD (RDf CD C 1))) (rcB_dict (monB_ins fun _ _ _ _ _ e h => h.ext e) lock_df ((rcB_ins GD at_ fn hb pass0).eqB (fun _ _ _ _ ⟨a, c, _, _, _, _, hx, hy, _⟩ => ⟨a, c, hx, hy⟩) (self_ins fun a b H h => h.self))) hr) (pe_fld (pv 0) rfl) (pe_fld (pv 1) rfl) (nomark _))))), ?_⟩
    refine s_ret (v := .bl b) (ev_is (ev_andV (a := true) (b := b) (ev_cb (ea_cons (ev_var rfl) (ea_cons ev_c ea_nil)) (rc_isiOwn (tyx_own I b1) kOwn)) (fun _ => ev_op (ev_fld (ev_var rfl) a1 T.cl T.nB bk_lookup) (ev_fld (ev_var rfl) b1 T.cl T.nB bk_lookup) (fun H1 e1 Q' q' => ?_))) (by rw [Bool.true_and])) k
    exact ⟨b, cdict_tab (e1 _ _ a2) (e1 _ _ b2) (ta.ex e1) (tb.ex e1) hbb, fun H2 e2 => q' H2 e2⟩
end
end Fs

set_option Elab.async false
set_option linter.all false
set_option maxRecDepth 100000
set_option maxHeartbeats 2000000
/-! list(range(n)). -/
namespace FsR
open PySem PySem.Spec PyProof.Rows L2 Evl
def nums (n : Nat) : List V := (List.range n).map fun (i : Nat) => V.int (i : Int)
def tListR (ta : TA) : TE := fun σ H Q => ta σ H fun vs H1 => ∃ n : Int, vs = [.int n] ∧ 0 ≤ n ∧ n ≤ 100000 ∧ ∀ p, H1 p = none → Q (.ref p) (upd H1 p (.lst (nums n.toNat)))
theorem nums_vals : ∀ {n : Nat} {acc : List Value}, acc.length = n → (∀ (j : Nat) (v : Value), acc[j]? = some v → ∃ t, v = Value.int (j : Int) t) → Vals (nums n) acc := by
  intro n
  induction n with
  | zero =>
    intro acc h _
    cases acc with
    | nil => exact Paired.nil
    | cons a b => cases h
  | succ n ih =>
    intro acc h hv
    obtain ⟨as, a, rfl⟩ : ∃ as a, acc = as ++ [a] := by
      rcases List.eq_nil_or_concat acc with e | ⟨as, a, e⟩
      · rw [e] at h; cases h
      · exact ⟨as, a, by rw [e, List.concat_eq_append]⟩
    have hl : as.length = n := by
      rw [List.length_append] at h
      exact Nat.succ.inj h
    have e1 : nums (n + 1) = nums n ++ [.int (n : Int)] := by
      unfold nums
      rw [List.range_succ, List.map_append]
      rfl
    rw [e1]
    refine Vals.append (ih hl fun j v hj => hv j v ?_) (.cons ?_ Paired.nil)
    · rw [List.getElem?_append_left (List.getElem?_eq_some_iff.mp hj).1]
      exact hj
    · obtain ⟨t, ht⟩ := hv n a (by rw [List.getElem?_append_right (by omega), hl, Nat.sub_self]; rfl)
      exact ⟨t, ht⟩
theorem pe_listR {X : Cx} {e : Expr} {ta : TA} {p1 p2 pos cpos : Pos} (hc : X.calm = true) (he : PA X [e] ta) (hg : Gl X "list") (hm : X.mg "list" = none) (hv : bootBuiltins "list" = some (.type "list")) (hg2 : Gl X "range") (hm2 : X.mg "range" = none)
    (hs : starEach [.Call (.Name "range" p2) [e] [] cpos] X.env = (false, eval (.Call (.Name "range" p2) [e] [] cpos) X.env) :: starEach [] X.env := by rfl) (hs2 : starEach [e] X.env = [(false, eval e X.env)] := by rfl) :
    PE X (.Call (.Name "list" p1) [.Call (.Name "range" p2) [e] [] cpos] [] pos) (tListR ta) := by
  refine ⟨fun pins s σ H Q I h => ?_⟩
  refine wpAny_Call_Name_kw (ld_blt I hg hm hv ?_)
  refine PyProof.Rows.callWith_type1 ?_ hs rfl
  rw [hs]
  show wpAny _ _ (spliced ((false, eval (.Call (.Name "range" p2) [e] [] cpos) X.env) :: backTo pos (starEach [] X.env))) _ _ s
  refine Calls.spliced_cons ?_
  refine Call_ (ld_blt I hg2 hm2 boot_range (PyProof.Rows.callWith_type1 (thn (he.run cpos pins s σ H _ I h) fun us s1 ⟨vs, H1, I1, r1, n, e1, z0, z1, q⟩ => ?_) hs2 rfl))
  subst e1
  cases r1 with
  | cons r rr =>
    cases rr
    obtain ⟨t, rfl⟩ := r
    refine call_range_1 ?_
    have I2 : Inv X pins σ H1 { s1 with heap := s1.heap.push { cls := .type "range", data := .fields #[.int 0 s1.toks, .int n t, .int 1 (s1.toks + 1)] }, toks := s1.toks + 1 + 1 } := I1.kept fun b o e => Heap.get?_push_of_some _ e
    refine Calls.spliced_nil ?_
    obtain ⟨m, rfl⟩ : ∃ m : Nat, n = (m : Int) := ⟨n.toNat, by omega⟩
    refine call_list_range (n := m) (I2.ok.hd hc) (IsRange.new ..) (small_one (by decide) (by decide) (by omega) (by omega)) (by rw [rangeSize_one]; split <;> omega) (by omega) (fun h' tk acc c' kp e ⟨hz, hi⟩ => ?_)
    have hv : Vals (nums m) acc.toList := nums_vals (by rw [Array.length_toList]; exact hz) fun j v hj => by
      rw [Array.getElem?_toList] at hj
      obtain ⟨t, ht⟩ := hi j v hj
      exact ⟨t, by rw [ht]; simp⟩
    have hzl : (nums m).length ≤ sizeLine := by
      unfold nums
      rw [List.length_map, List.length_range]
      exact sz_of (by omega)
    refine ⟨.ref _, _, I2.laid (t' := tk) kp (Nat.le_refl _) (show ObjOk X.prog X.w _ h' _ (.lst (nums m)) from ⟨hzl, acc.toList, c', hv, by rw [Array.toArray_toList]; exact e⟩), rfl, q _ (I2.hok.fresh (Nat.le_refl _))⟩
theorem el_listR {σ : L2.St} {H : Hp} {ta : TA} {n : Nat} (h : EvA ta σ H [.int (n : Int)]) (hn : n ≤ 100000) : EvL (tListR ta) σ H (nums n) := fun H1 e Q q => h H1 e _ fun H2 e2 => ⟨(n : Int), rfl, by omega, by omega, fun p hp => q p _ (fresh_back e2 hp) (e2.trans (Ex.new hp)) upd_same⟩
/-- xs + ys, both lists -/
theorem el_cat {σ : L2.St} {H : Hp} {ta tb : TE} {xs ys : List V} (ha : EvL ta σ H xs) (hb : EvL tb σ H ys) (hz : xs.length + ys.length ≤ 100000) : EvL (tOp rCat ta tb) σ H (xs ++ ys) := fun H1 e Q q =>
  ha H1 e _ fun p H2 hp e2 h2 => hb H2 (e.trans e2) _ fun r H3 hr e3 h3 => ⟨p, r, xs, ys, rfl, rfl, e3 _ _ h2, h3, sz_of (by omega), fun u hu => q u _ (fresh_back (e2.trans e3) hu) ((e2.trans e3).trans (Ex.new hu)) upd_same⟩
end FsR

set_option Elab.async false
set_option linter.all false
set_option maxRecDepth 100000
set_option maxHeartbeats 8000000
/-! the law's parts: its rows, its books -/
namespace Fs
open PySem L2 Evl FsE FsC FsR FsA FsD FsU FsK FsT FsQ
abbrev names14 : List Str := ["a", "b", "ab", "aa", "b1", "a1b2c3d4", "z", "zz", "c", "ca", "m", "m2", "q", "w"]
theorem n14 : ∀ z ∈ names14, Good z := by
  unfold Good
  decide +kernel
/-- names and marks, as the law draws them -/
structure RoOk (ns : List Str) (ks : List Int) : Prop where
  nd : ns.Nodup
  nm : ∀ z ∈ ns, Good z
  len : ks.length = ns.length
  mks : ∀ k ∈ ks, 0 ≤ k ∧ k ≤ 3
def RoAt (H : Hp) (t : Addr) (ns : List Str) (ks : List Int) : Prop := ∃ nl ml, H t = some (.tup [.ref nl, .ref ml]) ∧ H nl = some (.lst (ns.map V.str)) ∧ H ml = some (.lst (ks.map V.int))
theorem RoAt.ex {H H' : Hp} {t : Addr} {ns : List Str} {ks : List Int} (e : Ex H H') (h : RoAt H t ns ks) : RoAt H' t ns ks := by
  obtain ⟨nl, ml, h1, h2, h3⟩ := h
  exact ⟨nl, ml, e _ _ h1, e _ _ h2, e _ _ h3⟩
theorem RoOk.new {ns : List Str} {ks : List Int} {z : Str} {k : Int} (h : RoOk ns ks) (hz : z ∉ ns) (hg : Good z) (hk : 0 ≤ k ∧ k ≤ 3) : RoOk (ns ++ [z]) (ks ++ [k]) := by
  refine ⟨?_, fun y hy => ?_, by rw [List.length_append, List.length_append, h.len]; rfl, fun y hy => ?_⟩
  · rw [List.nodup_append]
    refine ⟨h.nd, by simp, fun a ha b hb e => ?_⟩
    rw [List.mem_singleton.mp hb] at e
    rw [e] at ha
    exact hz ha
  · rcases List.mem_append.mp hy with hy | hy
    · exact h.nm y hy
    · rw [List.mem_singleton.mp hy]
      exact hg
  · rcases List.mem_append.mp hy with hy | hy
    · exact h.mks y hy
    · rw [List.mem_singleton.mp hy]
      exact hk
section
variable {σ : L2.St} {H : Hp} {te ta tb tc td : TE} {tz : TS} {D : Ends} {K : PySem.W.Frag}
theorem ev_ixI {l : Addr} {xs : List Int} {j : Nat} {v : Int} (ha : Ev ta σ H (.ref l)) (hb : Ev tb σ H (.int (j : Int))) (hl : H l = some (.lst (xs.map V.int))) (hj : xs[j]? = some v) : Ev (tOp (rIxL K) ta tb) σ H (.int v) :=
  ev_op ha hb (rv_ixL (sq_of hl) (atI_nat (by rw [List.getElem?_map, hj]; rfl)))
theorem ev_ixZ {l : Addr} {xs : List Str} {j : Nat} {v : Str} (ha : Ev ta σ H (.ref l)) (hb : Ev tb σ H (.int (j : Int))) (hl : H l = some (.lst (xs.map V.str))) (hj : xs[j]? = some v) : Ev (tOp (rIxL K) ta tb) σ H (.str v) :=
  ev_op ha hb (rv_ixL (sq_of hl) (atI_nat (by rw [List.getElem?_map, hj]; rfl)))
theorem ev_int1 {K : PySem.W.Frag} {i : Int} (h : Ev ta σ H (.int i)) : Ev (tCB (fun xs H Q => (∃ i, xs = [V.int i] ∧ Q (.int i) H) ∨ ∃ k, xs = [V.bl k] ∧ Q (.int (if k then 1 else 0)) H) (tCons ta tNil)) σ H (.int i) := ev_cb (ea_cons h ea_nil) (rc_int (K := K))
/-- a list of four lists -/
theorem es_l4 {a b c d : List V} (h1 : EvL ta σ H a) (h2 : EvL tb σ H b) (h3 : EvL tc σ H c) (h4 : EvL td σ H d) : EvS (tLst (tCons ta (tCons tb (tCons tc (tCons td tNil))))) σ H (fun v H' => ∃ p l1 l2 l3 l4, v = .ref p ∧ H' p = some (.lst [.ref l1, .ref l2, .ref l3, .ref l4]) ∧ H' l1 = some (.lst a) ∧ H' l2 = some (.lst b) ∧ H' l3 = some (.lst c) ∧ H' l4 = some (.lst d)) := fun H0 e Q q =>
  h1 H0 e _ fun l1 H1 _ e1 k1 => h2 H1 (e.trans e1) _ fun l2 H2 _ e2 k2 => h3 H2 ((e.trans e1).trans e2) _ fun l3 H3 _ e3 k3 => h4 H3 (((e.trans e1).trans e2).trans e3) _ fun l4 H4 _ e4 k4 =>
    ⟨by show 4 ≤ sizeLine; decide, fun p hp => q (.ref p) _ ((((e1.trans e2).trans e3).trans e4).trans (Ex.new hp)) ⟨p, l1, l2, l3, l4, rfl, upd_same, (((e2.trans e3).trans e4).trans (Ex.new hp)) _ _ k1, ((e3.trans e4).trans (Ex.new hp)) _ _ k2, (e4.trans (Ex.new hp)) _ _ k3, (Ex.new hp) _ _ k4⟩⟩
end
section
variable {P : Program} {w : World} {K : PySem.W.Frag} {mg : Str → Option Value} {base : Heap} {C CB CK CN CD : Addr}
/-- _law_definition -/
def spDefn (CD C : Addr) : Sp := fun vs H Q _ => ∃ k : Int, vs = [.int k] ∧ (0 ≤ k ∧ k ≤ 3) ∧ ∀ v H', Ex H H' → DkAt CD C H' v k → Q v H'
theorem scDefn : FnScope ["_law_mark", "_law_params"] ["_law_mark"] (defScope (topS 45)) := ⟨rfl, rfl, rfl, by decide +kernel, rfl, by decide +kernel, by decide +kernel⟩
theorem ok_defn {f : Addr} {fd : FuncData} {k : Nat} (hk : 5 ≤ k) (F : Fun K "_law_definition" "_law_definition" (topS 45) f fd) (TP : TerT K mg C CB) (MD : MakX P w K mg base CX0 3 "Definition" CD (spDfInit CD)) (SC : StaX P w K mg base (L2.CX P w) 5 C "call" (spCall K C CB)) : FnOk P w K mg base CX0 (k + 1) f fd ["_law_mark"] (spDefn CD C) := by
  refine F.ok scDefn (fun vs H Q E h => ?_) (fun cdv A outer s H vs Q E hr h => ?_)
  · obtain ⟨k, rfl, _⟩ := h
    rfl
  · obtain ⟨m, rfl, hm, q⟩ := h
    refine ⟨_, pss_cons (ps_set (i := 1) scDefn.nd rfl (Or.inl rfl) (pe_ix ix_list (pe_lst (pa_cons (pe_lst (pa_cons pe_str (pa_cons pe_str pa_nil))) (pa_cons (pe_lst (pa_cons pe_str (pa_cons pe_str pa_nil))) (pa_cons (pe_lst (pa_cons pe_str (pa_cons pe_str pa_nil))) (pa_cons (pe_lst (pa_cons pe_str pa_nil)) pa_nil))))) (pv 0) (fun _ _ => rfl)))
      (pss_one (ps_ret (pe_mx (E := E0) MD hr (by omega) (by rfl) pass0 (pa_cons (pv 1) (pa_cons (pe_sx (E := fun _ => E0) SC hr (by omega) (pe_glob (v := .ref C) (by rfl) TP.mgC rfl) (fun σ => passesAt_of passL σ) (pa_cons pe_str (pa_cons (pe_lst (pa_cons (pe_ix ix_list (pe_lst (pa_cons pe_int (pa_cons pe_int (pa_cons pe_int (pa_cons pe_int pa_nil))))) (pv 0) (fun _ _ => rfl)) pa_nil)) pa_nil))) pa_nil))))), ?_⟩
    have two : ∀ x y : Str, (2 : Nat) ≤ 100000 := fun _ _ => by decide
    have ls : ∀ (H1 : Hp) (x y : Str), EvL (tLst (tCons (tC (.str x)) (tCons (tC (.str y)) tNil))) [some (.int m), none] H1 [.str x, .str y] := fun H1 x y => el_lst (ea_cons ev_c (ea_cons ev_c ea_nil)) (two x y)
    have pick : ∀ {H1 : Hp} {l1 l2 l3 l4 : Addr}, H1 l1 = some (.lst [.str "x", .str "y"]) → H1 l2 = some (.lst [.str "x", .str "y"]) → H1 l3 = some (.lst [.str "y", .str "x"]) → H1 l4 = some (.lst [.str "x"]) → ∃ l, atI [V.ref l1, .ref l2, .ref l3, .ref l4] m = some (.ref l) ∧ H1 l = some (.lst ((pmS m).map V.str)) := by
      intro H1 l1 l2 l3 l4 h1 h2 h3 h4
      have hc : m = 0 ∨ m = 1 ∨ m = 2 ∨ m = 3 := by omega
      rcases hc with rfl | rfl | rfl | rfl
      · exact ⟨l1, rfl, h1⟩
      · exact ⟨l2, rfl, h2⟩
      · exact ⟨l3, rfl, h3⟩
      · exact ⟨l4, rfl, h4⟩
    have body : atI [V.int 1, .int 2, .int 1, .int 1] m = some (.int (bmI m)) := by
      have hc : m = 0 ∨ m = 1 ∨ m = 2 ∨ m = 3 := by omega
      rcases hc with rfl | rfl | rfl | rfl <;> rfl
    have hb : 0 ≤ bmI m ∧ bmI m ≤ 4000 := by
      unfold bmI
      by_cases h : m = 1
      · rw [if_pos h]
        decide
      · rw [if_neg h]
        decide
    have pl : (pmS m).length ≤ 4 ∧ namesS (pmS m) = true ∧ ∀ z ∈ pmS m, z.length ≤ 40000 := by
      have hc : m = 0 ∨ m = 1 ∨ m = 2 ∨ m = 3 := by omega
      rcases hc with rfl | rfl | rfl | rfl <;> refine ⟨by decide +kernel, by decide +kernel, by decide +kernel⟩
    refine q_asgS (Pv := fun v H' => ∃ l, v = .ref l ∧ H' l = some (.lst ((pmS m).map V.str))) (fun H1 e1 Q1 k1 => es_l4 (σ := [some (.int m), none]) (H := H) (ls H "x" "y") (ls H "x" "y") (ls H "y" "x") (el_lst (vs := [.str "x"]) (ea_cons ev_c ea_nil) (by show 1 ≤ 100000; decide)) H1 e1 _ fun v H2 e2 ⟨p, l1, l2, l3, l4, hv, g0, g1, g2, g3, g4⟩ => by
      subst hv
      obtain ⟨l, a1, a2⟩ := pick g1 g2 g3 g4
      exact ⟨_, rfl, p, _, m, _, rfl, rfl, sq_of g0, a1, k1 _ H2 e2 ⟨l, rfl, a2⟩⟩) (fun v H1 e1 ⟨l, hv, a2⟩ => ?_)
    subst hv
    show tRet _ _ [some (.int m), some (.ref l)] H1
    refine s_mk2 (t1 := tVar 1) ⟨_, rfl, ?_⟩
    refine ⟨rfl, s_c2 (el_lst (vs := [.int (bmI m)]) (σ := [some (.int m), some (.ref l)]) (H := H1) (ea_cons (ev_opL1 (xs := [.int 1, .int 2, .int 1, .int 1]) (y := .int m) (el_lst (ea_cons ev_c (ea_cons ev_c (ea_cons ev_c (ea_cons ev_c ea_nil)))) (by show 4 ≤ 100000; decide)) (fun H2 e2 => ev_var rfl) (fun p H2 hp e2 => rv_ixL (sq_of hp) body)) ea_nil) (by show 1 ≤ 100000; decide) H1 (Ex.refl H1) _ fun u H3 hu e3 h3 => ?_)⟩
    refine ⟨"f", u, [.int (bmI m)], rfl, by decide +kernel, .inl h3, by show 1 ≤ 90; decide, fun o ho => by rw [List.mem_singleton.mp ho]; exact True.intro, fun _ c H4 hc e4 h4 => ?_, fun f hf => by rw [bad_f hb.1 hb.2] at hf; cases hf⟩
    intro x dx hx hdx hne
    refine ⟨x, dx, l, c, pmS m, H4, rfl, upd_same, hx, own_ex hx hdx, .inl ((e3.trans e4) _ _ a2), pl.1, pl.2.1, pl.2.2, fun H5 e5 h5 => ⟨rfl, ?_⟩⟩
    exact q _ H5 (((e1.trans e3).trans e4).trans e5) ⟨hm, x, c, rfl, h5, h4.ex e5⟩
/-- _law_rows -/
def spRowsB : Sp := fun vs H Q _ => ∃ (rl : Addr) (row : List Int), vs = [.ref rl] ∧ H rl = some (.lst (row.map V.int)) ∧ row.length = 10 ∧ RowOk row ∧ ∀ t nl ml ns ks H', Ex H H' → H nl = none → H ml = none → H' t = some (.tup [.ref nl, .ref ml]) → H' nl = some (.lst (ns.map V.str)) → H' ml = some (.lst (ks.map V.int)) → RoOk ns ks → ns.length ≤ 9 → Q (.ref t) H'
abbrev nsRowsB : List Str := ["_law_row_here", "_law_names", "_law_unlike", "_law_found", "_law_marks", "_law_k", "_law_name"]
theorem scRowsB : FnScope nsRowsB ["_law_row_here"] (defScope (topS 46)) := ⟨rfl, rfl, rfl, by decide +kernel, rfl, by decide +kernel, by decide +kernel⟩
theorem ok_rowsB {f : Addr} {fd : FuncData} (F : Fun K "_law_rows" "_law_rows" (topS 46) f fd) (L : LawT K mg) : FnOk P w K mg base CX0 1 f fd ["_law_row_here"] spRowsB := by
  refine F.ok scRowsB (fun vs H Q E h => ?_) (fun cdv A outer s H vs Q E hr h => ?_)
  · obtain ⟨rl, row, rfl, _⟩ := h
    rfl
  · obtain ⟨rl, row, rfl, h0, hlen, hrow, q⟩ := h
    refine ⟨_, pss_cons (ps_set (i := 1) scRowsB.nd rfl (Or.inl rfl) (pe_lst (pa_cons pe_str (pa_cons pe_str (pa_cons pe_str (pa_cons pe_str (pa_cons pe_str (pa_cons pe_str (pa_cons pe_str (pa_cons pe_str (pa_cons pe_str (pa_cons pe_str (pa_cons pe_str (pa_cons pe_str (pa_cons pe_str (pa_cons pe_str pa_nil))))))))))))))))
      (pss_cons (ps_set (i := 2) scRowsB.nd rfl (Or.inl rfl) (pe_ix ix_list (pe_lst (pa_cons pe_int (pa_cons pe_int (pa_cons pe_int (pa_cons pe_int pa_nil))))) (pe_op op_mod (pe_callTy call_int1 (by rfl) L.int (by decide +kernel) (pa_cons (pe_ix ix_list (pv 0) pe_int (fun _ _ => rfl)) pa_nil)) pe_int) (fun _ _ => rfl)))
      (pss_cons (ps_set (i := 3) scRowsB.nd rfl (Or.inl rfl) (pe_lst pa_nil))
      (pss_cons (ps_set (i := 4) scRowsB.nd rfl (Or.inl rfl) (pe_lst pa_nil))
      (pss_cons (ps_for PassesOwn.never rfl (pi_range1 rfl L.range (pa_cons (pe_op op_mod (pe_op op_fdiv (pe_ix ix_list (pv 0) pe_int (fun _ _ => rfl)) pe_int) pe_int) pa_nil)) (pg_name (i := 5) scRowsB.nd rfl (Or.inl rfl))
        (pss_cons (ps_set (i := 6) scRowsB.nd rfl (Or.inl rfl) (pe_ix ix_list (pv 1) (pe_op op_mod (pe_callTy call_int1 (by rfl) L.int (by decide +kernel) (pa_cons (pe_ix ix_list (pv 0) (pe_op op_add pe_int (pv 5)) (fun _ _ => rfl)) pa_nil)) pe_int) (fun _ _ => rfl)))
        (pss_one (ps_if (pt_cmpR op_notIn_seq (pv 6) (pv 3) (by rfl))
          (pss_cons (ps_expr (pe_bm PySem.F.plainAttrs_list PySem.F.slot_list_append PySem.F.type_list_append mt_append (pv 3) (pa_cons (pv 6) pa_nil)))
            (pss_one (ps_expr (pe_bm PySem.F.plainAttrs_list PySem.F.slot_list_append PySem.F.type_list_append mt_append (pv 4) (pa_cons (pe_op op_mod (pe_op op_fdiv (pe_ix ix_list (pv 0) (pe_op op_add pe_int (pv 5)) (fun _ _ => rfl)) pe_int) (pv 2)) pa_nil))))) pss_nil))))
      (pss_one (ps_ret (pe_tup (pa_cons (pv 3) (pa_cons (pv 4) pa_nil))))))))), ?_⟩
    obtain ⟨r0, g0, g1, g2⟩ := row_getB (i := 0) hrow (by omega)
    refine q_asgL (xs := names14.map V.str) (el_lst (ea_cons ev_c (ea_cons ev_c (ea_cons ev_c (ea_cons ev_c (ea_cons ev_c (ea_cons ev_c (ea_cons ev_c (ea_cons ev_c (ea_cons ev_c (ea_cons ev_c (ea_cons ev_c (ea_cons ev_c (ea_cons ev_c (ea_cons ev_c ea_nil)))))))))))))) (by show 14 ≤ 100000; decide)) (fun nl H1 hnl e1 h1 => ?_)
    obtain ⟨u, hu, hu1, hu4⟩ : ∃ u : Int, atI [V.int 1, .int 1, .int 2, .int 4] (r0 % 4) = some (.int u) ∧ 1 ≤ u ∧ u ≤ 4 := by
      have hc : r0 % 4 = 0 ∨ r0 % 4 = 1 ∨ r0 % 4 = 2 ∨ r0 % 4 = 3 := by omega
      rcases hc with z | z | z | z <;> rw [z]
      · exact ⟨1, rfl, by decide, by decide⟩
      · exact ⟨1, rfl, by decide, by decide⟩
      · exact ⟨2, rfl, by decide, by decide⟩
      · exact ⟨4, rfl, by decide, by decide⟩
    refine q_asg (v := .int u) (ev_opL1 (xs := [.int 1, .int 1, .int 2, .int 4]) (y := .int (r0 % 4)) (el_lst (ea_cons ev_c (ea_cons ev_c (ea_cons ev_c (ea_cons ev_c ea_nil)))) (by show 4 ≤ 100000; decide)) (fun H2 e2 => ev_op (x := .int r0) (ev_int1 (K := K) (ev_ixI (j := 0) (ev_var rfl) ev_c ((e1.trans e2) _ _ h0) g0)) ev_c (rv_I (by decide))) (fun p H2 hp e2 => rv_ixL (sq_of hp) hu)) (fun H2 e2 => ?_)
    refine q_asgL (xs := []) (el_lst ea_nil (by decide)) (fun fl H3 hfl e3 h3 => ?_)
    refine q_asgL (xs := []) (el_lst ea_nil (by decide)) (fun ml H4 hml e4 h4 => ?_)
    have n1 : fl ≠ ml := ne_of_none h3 hml
    have x4 := ((e1.trans e2).trans e3).trans e4
    have hfl0 : H fl = none := fresh_back (e1.trans e2) hfl
    have hml0 : H ml = none := fresh_back ((e1.trans e2).trans e3) hml
    have n2 : nl ≠ fl := ne_of_none (e2 _ _ h1) hfl
    have n3 : nl ≠ ml := ne_of_none ((e2.trans e3) _ _ h1) hml
    have hn : (0 : Int) ≤ r0 / 4 % 10 ∧ r0 / 4 % 10 ≤ 9 := by omega
    refine q_forR1 (n := r0 / 4 % 10) (ea_cons (ev_op (x := .int (r0 / 4)) (ev_op (x := .int r0) (ev_ixI (K := K) (j := 0) (ev_var rfl) ev_c (x4 _ _ h0) g0) ev_c (rv_I ⟨by decide, by decide⟩)) ev_c (rv_I (by decide))) ea_nil) (by omega)
      (fun i σ' H' => ∃ (ns : List Str) (ks : List Int) (v5 v6 : Option V), σ' = [some (.ref rl), some (.ref nl), some (.int u), some (.ref fl), some (.ref ml), v5, v6] ∧ RoOk ns ks ∧ ns.length ≤ i ∧ H' fl = some (.lst (ns.map V.str)) ∧ H' ml = some (.lst (ks.map V.int)) ∧ H' nl = some (.lst (names14.map V.str)) ∧ Ex H H')
      (fun H5 e5 => ⟨[], [], _, _, rfl, ⟨.nil, (fun z hz => nomatch hz), rfl, (fun z hz => nomatch hz)⟩, Nat.le_refl _, (e4.trans e5) _ _ h3, e5 _ _ h4, ((e2.trans e3).trans (e4.trans e5)) _ _ h1, x4.trans e5⟩)
      (fun i σ' H' hi ⟨ns, ks, v5, v6, hσ, ok, hl, hf, hm, hnm, he⟩ => ?_) (fun σ' H' ⟨ns, ks, v5, v6, hσ, ok, hl, hf, hm, hnm, he⟩ => ?_)
    · subst hσ
      obtain ⟨r, y0, y1, y2⟩ := row_getB (i := 1 + i) hrow (by omega)
      obtain ⟨z, hz, atz⟩ := str_at (ns := names14) (i := r % 14) (by omega) (by show r % 14 < 14; omega)
      have rI : ∀ (H9 : Hp), Ex H' H9 → ∀ vs : L2.St, vs[0]? = some (some (.ref rl)) → vs[5]? = some (some (.int (i : Int))) → Ev (tOp (rIxL K) (tVar 0) (tOp (rI0 fun i j => .int (i + j)) (tC (.int 1)) (tVar 5))) vs H9 (.int r) := fun H9 e9 vs s0 s5 => ev_ixI (j := 1 + i) (ev_var s0) (ev_is (ev_op (x := .int 1) (y := .int (i : Int)) ev_c (ev_var s5) rv_I0) (by show V.int (1 + (i : Int)) = V.int ((1 + i : Nat) : Int); congr 1)) ((he.trans e9) _ _ h0) y0
      refine q_asg (v := .str z) (ev_op (y := .int (r % 14)) (ev_var rfl) (ev_op (x := .int r) (ev_int1 (K := K) (rI H' (Ex.refl H') _ rfl rfl)) ev_c (rv_I (by decide))) (rv_ixL (sq_of hnm) atz)) (fun H5 e5 => ?_)
      refine s_when (b := !decide (z ∈ ns)) (et_is (et_test (ev_op (ev_var rfl) (ev_var rfl) (rv_niL (sq_of (e5 _ _ hf)) rfl flat_ns))) (by rw [inV_ns])) (fun hb H6 e6 => ?_) (fun hb H6 e6 => ?_)
      · have hzn : z ∉ ns := by simpa using hb
        refine q_app (xs := ns.map V.str) (v := .str z) ((e5.trans e6) _ _ hf) (ev_var rfl) (ev_var rfl) (by rw [List.length_map]; omega) (fun H7 e7 => ?_)
        have x7 := (e5.trans e6).trans e7
        have hfl7 : H7 fl = some (.lst (ns.map V.str)) := x7 _ _ hf
        have w7 : Ex H (upd H7 fl (.lst (ns.map V.str ++ [.str z]))) := Ex.mut (he.trans x7) hfl0
        have hk := Int.emod_nonneg (r / 14) (b := u) (by omega)
        have hk2 := Int.emod_lt_of_pos (r / 14) (b := u) (by omega)
        refine s_app (xs := ks.map V.int) (v := .int (r / 14 % u)) (by rw [upd_ne n1.symm]; exact x7 _ _ hm) (ev_var rfl) (ev_op (x := .int (r / 14)) (y := .int u) (ev_op (x := .int r) (ev_ixI (K := K) (j := 1 + i) (ev_var rfl) (ev_is (ev_op (x := .int 1) (y := .int (i : Int)) ev_c (ev_var rfl) rv_I0) (by show V.int (1 + (i : Int)) = V.int ((1 + i : Nat) : Int); congr 1)) (w7 _ _ h0) y0) ev_c (rv_I ⟨by decide, by decide⟩)) (ev_var rfl) (rv_I (by show 0 < u; omega))) (by rw [List.length_map, ok.len]; omega) (fun H8 e8 => ?_)
        refine ⟨ns ++ [z], ks ++ [r / 14 % u], _, _, rfl, ok.new hzn (n14 z hz) ⟨hk, by omega⟩, by rw [List.length_append]; show ns.length + 1 ≤ i + 1; omega, ?_, ?_, ?_, Ex.mut (w7.trans e8) hml0⟩
        · rw [upd_ne n1, e8 _ _ upd_same, List.map_append]
          rfl
        · rw [upd_same, List.map_append]
          rfl
        · rw [upd_ne n3]
          exact e8 _ _ (by rw [upd_ne n2]; exact x7 _ _ hnm)
      · have x6 := e5.trans e6
        exact ⟨ns, ks, _, _, rfl, ok, by omega, x6 _ _ hf, x6 _ _ hm, x6 _ _ hnm, he.trans x6⟩
    · subst hσ
      refine s_retU (xs := [.ref fl, .ref ml]) (eu_tup (ea_cons (ev_var rfl) (ea_cons (ev_var rfl) ea_nil)) (by show 2 ≤ 100000; decide)) (fun p H5 hp e5 h5 => ?_)
      exact q p fl ml ns ks H5 (he.trans e5) hfl0 hml0 h5 (e5 _ _ hf) (e5 _ _ hm) ok (by omega)
end
end Fs

set_option Elab.async false
set_option linter.all false
set_option maxRecDepth 100000
set_option maxHeartbeats 8000000
/-! the law's parts: a book made, and told -/
namespace Fs
open PySem L2 Evl FsE FsC FsR FsA FsD FsU FsK FsT FsQ
theorem ExB.ex {b : Addr} {H H1 H2 : Hp} (hb : H b = none) (e : Ex H H1) (h : ExB b H1 H2) : Ex H H2 := fun c o hc => h c o (fun z => by rw [z, hb] at hc; cases hc) (e c o hc)
theorem not_take {ns : List Str} {i : Nat} {z : Str} (nd : ns.Nodup) (h : ns[i]? = some z) : z ∉ ns.take i := fun hm => by
  obtain ⟨j, hj⟩ := List.mem_iff_getElem?.mp hm
  have hji : j < i := by
    have := (List.getElem?_eq_some_iff.mp hj).1
    rw [List.length_take] at this
    omega
  rw [List.getElem?_take, if_pos hji] at hj
  have := (List.getElem?_inj (List.getElem?_eq_some_iff.mp hj).1 nd).mp (hj.trans h.symm)
  omega
theorem take_next {α : Type} {xs : List α} {i : Nat} {x : α} (h : xs[i]? = some x) : xs.take (i + 1) = xs.take i ++ [x] := by
  rw [List.take_add_one, h]
  rfl
section
variable {σ : L2.St} {H : Hp} {te ta tb tc td : TE} {tz : TS} {D : Ends} {K : PySem.W.Frag} {CK CD C CN a : Addr} {kvs : List (Key × V)} {z : Str} {v : V} {Pv : V → Hp → Prop}
theorem q_unp2 {t a : Addr} {x1 x2 : V} {i1 i2 : Nat} (h : Ev ta σ H (.ref t)) (hx : H t = some (.tup [x1, x2])) (σ' : L2.St) (hσ : (σ.set i1 (some x1)).set i2 (some x2) = σ') (k : ∀ H1, Ex H H1 → tz D σ' H1) :
    tSeq (tAsg ta (gTup K 2 (gCons (gName i1) (gCons (gName i2) gNil)))) tz D σ H := by
  subst hσ
  exact h H (Ex.refl H) _ fun H1 e1 => ⟨t, _, rfl, st_of (e1 _ _ hx), rfl, _, _, rfl, _, _, rfl, rfl, k H1 e1⟩
theorem s_retS (h : EvS te σ H Pv) (k : ∀ v H1, Ex H H1 → Pv v H1 → D.rt v H1) : tRet te D σ H := h H (Ex.refl H) _ k
/-- book[z] -/
theorem ev_bkix {E : L2.St → XK} (ha : Ev ta σ H (.ref a)) (hb : Ev tb σ H (.str z)) (bk : BkAt CK H a kvs) (hz : z.length ≤ 1000) (hv : valV kvs (.inr z) = some v) : Ev (tIxO CK (spBkGet CK CN) E ta tb) σ H v := fun H1 e Q q =>
  ha H1 e _ fun H2 e2 => hb H2 (e.trans e2) _ fun H3 e3 => by
    have r3 := bk.ex ((e.trans e2).trans e3)
    obtain ⟨dx, t, h1, h2⟩ := id r3
    refine ⟨a, dx, _, rfl, h1, a, z, kvs, rfl, r3, hz, fun v' hv' H4 e4 => ?_, fun hn => ?_⟩
    · rw [hv] at hv'
      cases hv'
      exact q H4 ((e2.trans e3).trans e4)
    · rw [hv] at hn
      cases hn
theorem dp_tstrs {H : Hp} {t : Addr} {ns : List Str} (h : H t = some (.tup (ns.map V.str))) : Dp K H (.ref t) (.tuple (ns.map PyData.str)) := by
  refine .tup (st_of h) ?_
  have g : ∀ ms : List Str, DpAll K H (ms.map V.str) (ms.map PyData.str) := fun ms => by
    induction ms with
    | nil => exact .nil
    | cons m ms ih => exact .cons (.str m) ih
  exact g ns
theorem sh_pm {k : Int} (h : 0 ≤ k ∧ k ≤ 3) : SeqAt.shaped (.tuple ((pmS k).map PyData.str)) = true := by
  have hc : k = 0 ∨ k = 1 ∨ k = 2 ∨ k = 3 := by omega
  rcases hc with rfl | rfl | rfl | rfl <;> decide +kernel
theorem sh_call (j : Int) : SeqAt.shaped (.tuple [.str "f", .tuple [.int j]]) = true := by
  have hf : PyData.strOk "f" = true := by decide +kernel
  simp [SeqAt.shaped, PyData.canLay0, PyData.canLayAll0, PyData.depth, PyData.depthAll, hf]
/-- the law's look at one definition -/
theorem et_dkLook {mg : Str → Option Value} {CB : Addr} (T : TerT K mg C CB) (TD : DfT K mg CD) {x y : V} {k : Int} (ha : Ev ta σ H x) (hb : Ev tb σ H y) (h : DkAt CD C H x k) (g : DkAt CD C H y k) :
    EvT (tOr (tB (tOp (rNeD K) (tFld K ta "params") (tFld K tb "params"))) (tOr (tB (tOp rNe (tFld K (tFld K ta "body") "kind") (tC (.str "call")))) (tB (tOp (rNeD K) (tFld K (tFld K ta "body") "parts") (tFld K (tFld K tb "body") "parts"))))) σ H false := by
  obtain ⟨hk, a, b, rfl, ⟨dx, t, h1, h2⟩, h3⟩ := h
  obtain ⟨_, c, d, rfl, ⟨dy, u, g1, g2⟩, g3⟩ := g
  obtain ⟨t1, p1, ⟨dz, y1⟩, y2, u1, rfl, y4⟩ := h3.out
  obtain ⟨t2, p2, ⟨dw, z1⟩, z2, u2, rfl, z4⟩ := g3.out
  refine et_is (et_or (a := false) (b := false) (et_B (ev_neDt (d := .tuple ((pmS k).map PyData.str)) (edt_v (ev_fld ha h1 TD.cl TD.nP df_params) (fun H1 e1 => dp_tstrs (e1 _ _ h2))) (edt_v (ev_fld hb g1 TD.cl TD.nP df_params) (fun H1 e1 => dp_tstrs (e1 _ _ g2))) (sh_pm hk))) (fun _ => ?_)) rfl
  refine et_is (et_or (a := false) (b := false) (et_B (ev_is (ev_op (x := .str "call") (y := .str "call") (ev_fld (ev_fld ha h1 TD.cl TD.nB df_body) y1 T.cl T.nK pf_kind) ev_c (rv_ne rfl)) (by rw [decide_eq_true rfl]; rfl))) (fun _ => ?_)) rfl
  refine et_B (ev_neDt (d := .tuple [.str "f", .tuple [.int (bmI k)]]) (edt_v (ev_fld (ev_fld ha h1 TD.cl TD.nB df_body) y1 T.cl T.nP pf_parts) (fun H1 e1 => .tup (st_of (e1 _ _ y2)) (.cons (.str _) (.cons (.tup (st_of (e1 _ _ y4)) (.cons (.int _) .nil)) .nil)))) (edt_v (ev_fld (ev_fld hb g1 TD.cl TD.nB df_body) z1 T.cl T.nP pf_parts) (fun H1 e1 => .tup (st_of (e1 _ _ z2)) (.cons (.str _) (.cons (.tup (st_of (e1 _ _ z4)) (.cons (.int _) .nil)) .nil)))) (sh_call _))
end
section
variable {P : Program} {w : World} {K : PySem.W.Frag} {mg : Str → Option Value} {base : Heap} {C CB CK CN CD t0 : Addr}
/-- _law_book -/
def spLBook (CK CD C : Addr) : Sp := fun vs H Q _ => ∃ (t : Addr) (ns : List Str) (ks : List Int), vs = [.ref t] ∧ RoAt H t ns ks ∧ RoOk ns ks ∧ ns.length ≤ 12 ∧ ∀ b H', H b = none → Ex H H' → BT CK CD C H' b ns ks → Q (.ref b) H'
abbrev nsLBook : List Str := ["_law_rows_here", "_law_book_here", "_law_names", "_law_marks", "_law_k"]
theorem scLBook : FnScope nsLBook ["_law_rows_here"] (defScope (topS 47)) := ⟨rfl, rfl, rfl, by decide +kernel, rfl, by decide +kernel, by decide +kernel⟩
theorem ok_lbook {f fg : Addr} {fd gd : FuncData} {k : Nat} (hk : 2 ≤ k) (nCK : CK ≠ C) (nDK : CK ≠ CD) (F : Fun K "_law_book" "_law_book" (topS 47) f fd) (L : LawT K mg) (MB : MkB P w K mg base CK t0) (SM : StM K CK fg) (FG : FnOk P w K mg base (L2.CX P w) k fg gd ["self", "at", "worth"] (spBkSet CK CB)) (BG : Binds K gd ["self", "at", "worth"] []) (GD : CalX P w K mg base CX0 k "_law_definition" (spDefn CD C)) :
    FnOk P w K mg base CX0 (k + 1) f fd ["_law_rows_here"] (spLBook CK CD C) := by
  refine F.ok scLBook (fun vs H Q E h => ?_) (fun cdv A outer s H vs Q E hr h => ?_)
  · obtain ⟨t, ns, ks, rfl, _⟩ := h
    rfl
  · obtain ⟨t, ns, ks, rfl, ⟨nl, ml, h1, h2, h3⟩, ok, l12, q⟩ := h
    refine ⟨_, pss_cons (ps_set (i := 1) scLBook.nd rfl (Or.inl rfl) (pe_bk (E := E0) MB hr (by omega) (by rfl) pass0))
      (pss_cons (ps_asg (pv 0) (pg_tup rfl (pgs_cons (pg_name (i := 2) scLBook.nd rfl (.inl rfl)) (pgs_cons (pg_name (i := 3) scLBook.nd rfl (.inl rfl)) pgs_nil))))
      (pss_cons (ps_for PassesOwn.never rfl (pi_range1 rfl L.range (pa_cons (pe_callB call_len_seq (by rfl) L.len PySem.boot_len (pa_cons (pv 2) pa_nil)) pa_nil)) (pg_name (i := 4) scLBook.nd rfl (Or.inl rfl))
        (pss_one (ps_asg (pe_cx (E := fun _ => E0) GD hr (Nat.le_refl _) (by rfl) at0 (pa_cons (pe_ix ix_list (pv 3) (pv 4) (fun _ _ => rfl)) pa_nil)) (pg_subO (E := fun _ => E0) (pv 1) (pe_ix ix_list (pv 2) (pv 4) (fun _ _ => rfl)) SM FG hr BG (fun σ => passesAt_of passL σ)))))
      (pss_one (ps_ret (pv 1))))), ?_⟩
    refine fun b dx hb hdx hne => ⟨b, dx, t0, [], H, rfl, upd_same, hb, own_ex hb hdx, .inl ⟨MB.t0, rfl⟩, fun H1 e1 k1 => ⟨rfl, ?_⟩⟩
    refine q_unp2 (a := t) (K := K) (ev_var rfl) (e1 _ _ h1) [some (.ref t), some (.ref b), some (.ref nl), some (.ref ml), none] rfl (fun H2 e2 => ?_)
    have x2 := e1.trans e2
    refine q_forR1 (n := (ns.length : Int)) (ea_cons (ev_is (ev_lenA (K := K) (ev_var rfl) (.inl (sq_of (x2 _ _ h2)))) (by rw [List.length_map])) ea_nil) (by omega)
      (fun i σ' H' => ∃ v4 : Option V, σ' = [some (.ref t), some (.ref b), some (.ref nl), some (.ref ml), v4] ∧ BT CK CD C H' b (ns.take i) (ks.take i) ∧ Ex H H')
      (fun H3 e3 => ⟨_, rfl, ⟨[], k1.ex (e2.trans e3), ⟨rfl, True.intro, .nil, fun z hz => nomatch hz⟩⟩, x2.trans e3⟩) (fun i σ' H' hi ⟨v4, hσ, ⟨kvs, bk, tab⟩, he⟩ => ?_) (fun σ' H' ⟨v4, hσ, bt, he⟩ => ?_)
    · subst hσ
      have hi' : i < ns.length := by omega
      have hz : ns[i]? = some ns[i] := List.getElem?_eq_getElem hi'
      have hik : i < ks.length := by rw [ok.len]; exact hi'
      have hq : ks[i]? = some ks[i] := List.getElem?_eq_getElem hik
      generalize ns[i] = z at hz
      generalize ks[i] = m at hq
      have gz := ok.nm z (List.mem_of_getElem? hz)
      refine ev_ixI (K := K) (ev_var rfl) (ev_var rfl) (he _ _ h3) hq H' (Ex.refl H') _ fun H3 e3 => ⟨m, rfl, ok.mks m (List.mem_of_getElem? hq), fun v H4 e4 hv => ?_⟩
      refine ⟨_, rfl, ev_ixZ (K := K) (j := i) (ev_var rfl) (ev_var rfl) (((he.trans e3).trans e4) _ _ h2) hz H4 (Ex.refl H4) _ fun H5 e5 => ?_⟩
      have x5 := (e3.trans e4).trans e5
      have bk5 := bk.ex x5
      have tab5 := tab.ex x5
      have nz := not_take ok.nd hz
      obtain ⟨dy, d5, y1, y2⟩ := id bk5
      have pl := putK_len (v := v) z tab5
      rw [if_neg nz, List.length_take] at pl
      refine ⟨b, dy, _, rfl, y1, b, z, v, kvs, rfl, bk5, tab5.ndk, by rw [tab5.l1, List.length_take]; omega, by have := gz.2.1; omega, fun _ _ H6 e6 h6 => ?_, fun _ h12 => absurd h12 (by omega), fun hn => ?_⟩
      · refine ⟨_, rfl, ⟨_, h6, ?_⟩, ExB.ex hb (he.trans x5) e6⟩
        rw [take_next hz, take_next hq]
        exact (tab5.new nz gz (hv.ex e5)).keepC (e6.exC bk5 nDK) (e6.exC bk5 nCK)
      · rw [gz.1] at hn
        cases hn
    · subst hσ
      have e : ((ns.length : Int)).toNat = ns.length := by omega
      rw [e, List.take_length, ← ok.len, List.take_length] at bt
      exact s_ret (ev_var rfl) (fun H3 e3 => q b H3 hb (he.trans e3) (bt.ex e3))
/-- _law_is, where it is so -/
def spLIs (CK CD C : Addr) : Sp := fun vs H Q _ => ∃ (a t : Addr) (ns : List Str) (ks : List Int), vs = [.ref a, .ref t] ∧ BT CK CD C H a ns ks ∧ RoAt H t ns ks ∧ RoOk ns ks ∧ ns.length ≤ 20 ∧ RetV (.bl true) H Q
abbrev nsLIs : List Str := ["_law_book_here", "_law_rows_here", "_law_names", "_law_marks", "_law_k", "_law_due_here", "_law_found"]
theorem scLIs : FnScope nsLIs ["_law_book_here", "_law_rows_here"] (defScope (topS 48)) := ⟨rfl, rfl, rfl, by decide +kernel, rfl, by decide +kernel, by decide +kernel⟩
theorem ok_lis {f fl fn fg : Addr} {fd fdl fdn gd : FuncData} {k kg : Nat} (hk : kg + 1 ≤ k) (hk2 : 2 ≤ k) (F : Fun K "_law_is" "_law_is" (topS 48) f fd) (L : LawT K mg) (hs : mg "sorted" = none) (TP : TerT K mg C CB) (TD : DfT K mg CD) (TB : BkT K mg CK CB) (LM : LenM K CK fl) (FL : FnOk P w K mg base CX0 1 fl fdl ["self"] (spBkLen CK)) (BL : Binds K fdl ["self"] [])
    (MN : Meth K CK "names" fn) (FN : FnOk P w K mg base CX0 1 fn fdn ["self"] (spBkNames CK)) (BN : Binds K fdn ["self"] []) (IX : IxM K CK fg) (FG : FnOk P w K mg base (L2.CX P w) kg fg gd ["self", "at"] (spBkGet CK CN)) (BG : Binds K gd ["self", "at"] []) (GD : CalX P w K mg base CX0 k "_law_definition" (spDefn CD C)) :
    FnOk P w K mg base CX0 (k + 1) f fd ["_law_book_here", "_law_rows_here"] (spLIs CK CD C) := by
  refine F.ok scLIs (fun vs H Q E h => ?_) (fun cdv A outer s H vs Q E hr h => ?_)
  · obtain ⟨a, t, ns, ks, rfl, _⟩ := h
    rfl
  · obtain ⟨a, t, ns, ks, rfl, ⟨kvs, bk, tab⟩, ⟨nl, ml, h1, h2, h3⟩, ok, l12, q⟩ := h
    refine ⟨_, pss_cons (ps_asg (pv 1) (pg_tup rfl (pgs_cons (pg_name (i := 2) scLIs.nd rfl (.inl rfl)) (pgs_cons (pg_name (i := 3) scLIs.nd rfl (.inl rfl)) pgs_nil))))
      (pss_cons (ps_if (PW.pt (pw_or (pt_cmpR op_ne (pe_callB (call_lenO (E := E0) LM FL (hr.mono (by omega)) BL (fun σ => at0 (E := fun _ => E0) σ)) (by rfl) L.len PySem.boot_len (pa_cons (pv 0) pa_nil)) (pe_callB call_len_seq (by rfl) L.len PySem.boot_len (pa_cons (pv 2) pa_nil)) (nomark _))
          (pw_or1 (pt_cmpR (op_neD hr.units) (pe_meth0 (E := E0) (pv 0) TB.cl MN FN (hr.mono (by omega)) BN .nil pass0) (pe_callB cr_sortedS (by rfl) hs (by decide +kernel) (pa_cons (pv 2) pa_nil)) (nomark _))))) (pss_one (ps_ret pe_bl)) pss_nil)
      (pss_cons (ps_for PassesOwn.never rfl (pi_range1 rfl L.range (pa_cons (pe_callB call_len_seq (by rfl) L.len PySem.boot_len (pa_cons (pv 2) pa_nil)) pa_nil)) (pg_name (i := 4) scLIs.nd rfl (Or.inl rfl))
        (pss_cons (ps_set (i := 5) scLIs.nd rfl (Or.inl rfl) (pe_cx (E := fun _ => E0) GD hr (Nat.le_refl _) (by rfl) at0 (pa_cons (pe_ix ix_list (pv 3) (pv 4) (fun _ _ => rfl)) pa_nil)))
        (pss_cons (ps_set (i := 6) scLIs.nd rfl (Or.inl rfl) (pe_ixO (E := fun _ => E0) (pv 0) (pe_ix ix_list (pv 2) (pv 4) (fun _ _ => rfl)) IX FG (hr.mono hk) BG (fun σ => passesAt_of passL σ)))
        (pss_one (ps_if (PW.pt (pw_or (pt_cmpR (op_neD hr.units) (pe_fld (pv 6) rfl) (pe_fld (pv 5) rfl) (nomark _)) (pw_or (pt_cmpR op_ne (pe_fld (pe_fld (pv 6) rfl) rfl) pe_str (nomark _)) (pw_or1 (pt_cmpR (op_neD hr.units) (pe_fld (pe_fld (pv 6) rfl) rfl) (pe_fld (pe_fld (pv 5) rfl) rfl) (nomark _)))))) (pss_one (ps_ret pe_bl)) pss_nil)))))
      (pss_one (ps_ret pe_bl)))), ?_⟩
    have l1 := tab.l1
    have hok : ∀ z ∈ ns, PyData.strOk z = true := fun z hz => (ok.nm z hz).2.2
    refine q_unp2 (a := t) (K := K) (ev_var rfl) h1 [some (.ref a), some (.ref t), some (.ref nl), some (.ref ml), none, none, none] rfl (fun H1 e1 => ?_)
    refine q_when (b := false) (et_is (et_or (a := false) (b := false) (et_is (et_test (ev_op (x := .int (ns.length : Int)) (y := .int (ns.length : Int)) (ev_is (ev_lenBk (ev_var rfl) (bk.ex e1) (by omega)) (by rw [l1])) (ev_is (ev_lenA (K := K) (ev_var rfl) (.inl (sq_of (e1 _ _ h2)))) (by rw [List.length_map])) (rv_ne rfl))) (by rw [decide_eq_true rfl]; rfl)) (fun _ => et_test (ev_nmsNe (i0 := 0) (i1 := 2) rfl rfl (bk.ex e1) (tab.ex e1) (e1 _ _ h2) (by omega) hok))) rfl) (fun z => nomatch z) (fun _ H2 e2 => ?_)
    have x2 := e1.trans e2
    refine q_forR1 (n := (ns.length : Int)) (ea_cons (ev_is (ev_lenA (K := K) (ev_var rfl) (.inl (sq_of (x2 _ _ h2)))) (by rw [List.length_map])) ea_nil) (by omega)
      (fun i σ' H' => ∃ v4 v5 v6 : Option V, σ' = [some (.ref a), some (.ref t), some (.ref nl), some (.ref ml), v4, v5, v6] ∧ Ex H H')
      (fun H3 e3 => ⟨_, _, _, rfl, x2.trans e3⟩) (fun i σ' H' hi ⟨v4, v5, v6, hσ, he⟩ => ?_) (fun σ' H' ⟨v4, v5, v6, hσ, he⟩ => ?_)
    · subst hσ
      have hi' : i < ns.length := by omega
      have hz : ns[i]? = some ns[i] := List.getElem?_eq_getElem hi'
      have hik : i < ks.length := by rw [ok.len]; exact hi'
      have hq : ks[i]? = some ks[i] := List.getElem?_eq_getElem hik
      generalize ns[i] = z at hz
      generalize ks[i] = m at hq
      have gz := ok.nm z (List.mem_of_getElem? hz)
      obtain ⟨j, v, k9, j1, j2, j3, j4⟩ := tab.get (List.mem_of_getElem? hz)
      obtain rfl : j = i := (List.getElem?_inj (List.getElem?_eq_some_iff.mp j1).1 tab.nd).mp (j1.trans hz.symm)
      rw [hq] at j3
      cases j3
      refine q_asgS (Pv := fun v H' => DkAt CD C H' v m) (fun H3 e3 Q3 k3 => ev_ixI (K := K) (ev_var rfl) (ev_var rfl) (he _ _ h3) hq H3 e3 _ fun H4 e4 => ⟨m, rfl, ok.mks m (List.mem_of_getElem? hq), fun v H5 e5 hv => k3 v H5 (e4.trans e5) hv⟩) (fun y H3 e3 hy => ?_)
      have x3 := he.trans e3
      refine q_asg (v := v) (ev_bkix (ev_var rfl) (ev_ixZ (K := K) (j := j) (ev_var rfl) (ev_var rfl) (x3 _ _ h2) hz) (bk.ex x3) (by have := gz.2.1; omega) j2) (fun H4 e4 => ?_)
      exact s_when (b := false) (et_dkLook TP TD (ev_var rfl) (ev_var rfl) (j4.ex (x3.trans e4)) (hy.ex e4)) (fun z => nomatch z) (fun _ H5 e5 => ⟨_, _, _, rfl, (x3.trans e4).trans e5⟩)
    · subst hσ
      exact s_ret ev_c (fun H3 e3 => q H3 (he.trans e3))
end
end Fs

set_option Elab.async false
set_option linter.all false
set_option maxRecDepth 100000
set_option maxHeartbeats 4000000
/-! try: body, several clauses, each with its own name: except x as n: suite. -/
namespace FsT
open PySem PySem.Spec PyProof.Rows L2
abbrev Cls3 := Value × Nat × (Addr → Value → Option Addr → TS)
/-- the ends of a suite whose name goes behind it -/
def offN (i : Nat) (D : Ends) : Ends := { nx := fun τ G => D.nx (τ.set i none) G, rt := D.rt, bk := fun τ G => D.bk (τ.set i none) G, ct := fun τ G => D.ct (τ.set i none) G }
/-- what the clauses wish, in their order -/
def wAll (K : PySem.W.Frag) (W0 : WX) (D : Ends) : List Cls3 → WX
  | [] => W0
  | q :: more => fun cls d τ G => ∃ b, PySem.W.exmOne K cls q.1 = some b ∧ (b = true → ∀ x, G x = none → q.2.2 x cls d (offN q.2.1 D) (τ.set q.2.1 (some (.ref x))) G) ∧ (b = false → wAll K W0 D more cls d τ G)
inductive Clauses (X : Cx) : List ExceptHandler → List Cls3 → Prop
  | none : Clauses X [] []
  | one {y n : Str} {c : Value} {i : Nat} {ts : Addr → Value → Option Addr → TS} {st : Stmt} {sts : List Stmt} {p1 p2 : Pos} {hs : List ExceptHandler} {qs : List Cls3} (at_ : X.N[i]? = some n) (loc : X.env.kindOf n = some .local) (nm : Names X y c)
      (su : ∀ (x : Addr) (o : Obj) (cls : Value) (d : Option Addr) (pn : List (Addr × Obj)), Zc cls d o → (∃ vs, o.data = .fields vs) → PSs (X.suite x ((x, o) :: pn)) (st :: sts) (ts x cls d)) (more : Clauses X hs qs) :
      Clauses X (.ExceptHandler (some (.Name y p1)) (some n) (st :: sts) p2 :: hs) ((c, i, ts) :: qs)
section
variable {X : Cx} {body : List Stmt} {h₀ : ExceptHandler} {hds : List ExceptHandler} {qs : List Cls3} {pos : Pos} {tb : WX → TS} {W0 : WX}
theorem ps_try_all (st : X.stack = X.env :: X.outer) (fr : X.env.frame = some X.env.locals) (nd : X.N.Nodup) (tk : Takes X W0)
    (hb : ∀ (W : WX) (pn : List (Addr × Obj)) (xe : Value → Shared → Prop), Takes (X.tr pn xe) W → PassesOwn (model X.prog X.w) X.A X.env xe → PSs (X.tr pn xe) body (tb W))
    (hh : Clauses X (h₀ :: hds) qs) : PS X (.Try body (h₀ :: hds) [] [] pos) (fun D τ G => tb (wAll X.K W0 D qs) D τ G) := by
  refine ⟨fun pins s τ G D I h => ?_⟩
  have ok := I.ok
  have afr : X.A.frames = some (X.env :: X.outer) := ok.frames.trans (congrArg some st)
  refine wpAny_Try_except (wpAny_mono ((hb (wAll X.K W0 D qs) (X.pn ++ pins) (fun e s₁ => wpAny (model X.prog X.w) X.A (noteFrame e X.env) (fun _ s₂ => wpAny (model X.prog X.w) X.A (setFlight e none) (fun _ s₃ =>
    wpAny (model X.prog X.w) X.A (handleBy e X.env (h₀ :: hds)) (SP X pins D) X.xe s₃) X.xe s₂) X.xe s₁) (fun u s' fly => ?_) PassesOwn.looking).run [] s τ G D (I.toTry _) h) (fun fl s1 z => ?_) (fun _ _ z => z))
  rotate_left
  · cases fl with
    | ret u => exact let ⟨v, τ1, G1, J, r, q⟩ := z; ⟨v, τ1, G1, J.ofTry ok, r, q⟩
    | next => exact let ⟨τ1, G1, J, q⟩ := z; wpAny_execs_nil ⟨τ1, G1, J.ofTry ok, q⟩
    | brk => exact let ⟨τ1, G1, J, q⟩ := z; ⟨τ1, G1, J.ofTry ok, q⟩
    | cont => exact let ⟨τ1, G1, J, q⟩ := z; ⟨τ1, G1, J.ofTry ok, q⟩
  obtain ⟨x, B, sI, pins1, τ1, G1, cls, d, rfl, Jt, nb, up, sky, nx, os, ag, w⟩ := fly
  have J : Inv X pins τ1 G1 sI := Jt.ofTry ok
  show wpAny (model X.prog X.w) X.A (noteFrame (.ref x) X.env) _ _ _
  refine Sky.land Zc.steady afr fr (show Sky B (X.env :: X.outer) x (Zc cls d) X.env.locals s'.heap from st ▸ sky) fun g fg ug => ?_
  obtain ⟨o, vs, ho, hz, hd⟩ := fg.there
  have out : x ∉ frs (X.env :: X.outer) := fun hm => by
    obtain ⟨_, o', eo, bad⟩ := fg.2.2.1.mem hm
    rw [ho] at eo
    cases eo
    exact bad _ hd
  have n1 : x ≠ X.env.locals := fun z => out (List.mem_filterMap.mpr ⟨X.env, List.mem_cons_self, fr.trans (congrArg some z.symm)⟩)
  have n2 : x ∉ X.fs := fun hm => let ⟨e, he, q⟩ := List.mem_filterMap.mp hm; out (List.mem_filterMap.mpr ⟨e, List.mem_cons_of_mem _ he, q⟩)
  have Jg : Inv X pins τ1 G1 { s' with heap := g } := J.landed nb fg.1 (up.trans ug) os ag
  have S := Jg.suite ho hd nx n1 n2
  have kin : X.K.In g := Jg.kIn
  have every : ∀ {hs : List ExceptHandler} {l : List Cls3}, Clauses X hs l → wAll X.K W0 D l cls d τ1 G1 → wpAny (model X.prog X.w) X.A (handleBy (.ref x) X.env hs) (SP X pins D) X.xe { s' with heap := g } := by
    intro hs l cl
    induction cl with
    | none =>
      intro w
      obtain ⟨_, _, _, o1, vs1, T, oT, ts1, e1, _, e2, e3, _⟩ := id fg
      have up1 : wpAny (model X.prog X.w) X.A (setFlight (.ref x) X.env.frame) (fun _ s4 => wpAny (model X.prog X.w) X.A (throw (.ref x) : Sem Flow) (SP X pins D) X.xe s4) X.xe { s' with heap := g } := fr ▸ HandSPX.setFlight_upZ fg fun g2 held ug2 => wpAny_throw (tk _ _
        ⟨x, B, sI, pins, τ1, G1, cls, d, rfl, J, nb, (up.trans ug).trans ug2, .inr (.inr (by rw [st]; exact held)), nx, os, ag, w⟩)
      refine wpAny_handleBy_nil ?_
      unfold PySem.passOn
      refine wpAny_bind (wpAny_field e1 e2 e3 ?_)
      rw [if_neg (by simp : ¬ ((Value.ref T == Value.none) = true))]
      first
        | exact wpAny_bind (wpAny_pure (wpAny_bind up1))
        | exact wpAny_bind up1
    | @one y n c i ts st1 sts1 p1 p2 hs1 qs1 at_ loc nm su more ih =>
      rintro ⟨b, eb, yes, no⟩
      have tyx : PySem.W.Looks (model X.prog X.w) g (typeOf (.ref x)) cls := fun A Q E s k q => wpAny_typeOf_ref (k _ _ ho) (hz.1 ▸ q)
      refine wpAny_handleBy_cons (codeAny_handlers_test ?_) (by intro q; cases q)
      have named : ∀ {Q : Value → Shared → Prop} {E : Value → Shared → Prop}, Q c { s' with heap := g } → wpAny (model X.prog X.w) (X.A.mark (some (.ref x))) (eval (.Name y p1) X.env) Q E { s' with heap := g } := fun {Q E} q => by
        rcases nm with ⟨gl, db, hm | ⟨hm, hv, hnn⟩⟩
        · exact ld_glob (X := X.suite x ((x, o) :: (X.pn ++ pins))) S gl hm q db
        · exact ld_blt (X := X.suite x ((x, o) :: (X.pn ++ pins))) S gl hm hv q hnn db
      refine named ((PySem.W.exm_one (M := model X.prog X.w) kin tyx eb).here ?_)
      cases b with
      | false => exact ih (no rfl)
      | true =>
        refine codeAny_handlers_suite_as (HandSPX.lands_againZ fg fun g2 fg2 ug2 => ?_)
        obtain ⟨o2, vs2, ho2, hz2, hd2⟩ := fg2.there
        have Jg2 : Inv X pins τ1 G1 { s' with heap := g2 } := J.landed nb fg2.1 ((up.trans ug).trans ug2) os ag
        have S2 := Jg2.suite ho2 hd2 nx n1 n2
        refine store_ok (X := X.suite x ((x, o2) :: (X.pn ++ pins))) (v := .ref x) S2 nd at_ (.inl loc) rfl (fun s5 S5 => ?_) (.inr loc)
        refine wpAny_mono ((su x o2 cls d (X.pn ++ pins) hz2 ⟨_, hd2⟩).run [] s5 _ G1 _ S5 (yes rfl x nx)) (fun fl s6 z => ?_) (fun _ _ z => False.elim z)
        have goes : ∀ {τ6 : L2.St} {G6 : Hp} {Q : Shared → Prop}, Inv (X.suite x ((x, o2) :: (X.pn ++ pins))) [] τ6 G6 s6 → (∀ s7, Inv X pins (τ6.set i none) G6 s7 → Q s7) →
            wpAny (model X.prog X.w) X.A (do bindName X.env n .none; unbindBehindTheSuite X.env n p2) (fun _ s7 => Q s7) X.xe s6 := fun {τ6 G6 Q} S6 hq => gone_ok (S6.unsuite ok) nd at_ loc hq
        cases fl with
        | ret u => exact let ⟨v6, τ6, G6, S6, r6, q6⟩ := z; goes S6 fun s7 J7 => ⟨_, _, _, J7, r6, q6⟩
        | next => exact let ⟨τ6, G6, S6, q6⟩ := z; goes S6 fun s7 J7 => ⟨_, _, J7, q6⟩
        | brk => exact let ⟨τ6, G6, S6, q6⟩ := z; goes S6 fun s7 J7 => ⟨_, _, J7, q6⟩
        | cont => exact let ⟨τ6, G6, S6, q6⟩ := z; goes S6 fun s7 J7 => ⟨_, _, J7, q6⟩
  exact every hh w
end
/-- o.m(..), what the method raises told by the slots -/
def tMethS (C : Addr) (m : Str) (sp : Sp) (E : L2.St → XK) (ta : TE) (t : TA) : TE := fun τ G Q => ta τ G fun x G1 => ∃ a dx fs, x = .ref a ∧ G1 a = some (.ins C dx fs) ∧ fs.lookup m = none ∧ t τ G1 fun vs G2 => sp (x :: vs) G2 Q (E τ)
section
variable {X : Cx} {CX : CXT} {k : Nat} {f C : Addr} {fd : FuncData} {ps : List Str} {sp : Sp} {E : L2.St → XK} {m : Str} {pos apos : Pos} {e o : Expr} {es : List Expr} {ta : TE} {t : TA}
theorem pe_methS {pl : Sem Bool} (he : PE X o ta) (c : Cls X.K C) (hm : Meth X.K C m f) (F : FnOk X.prog X.w X.K X.mg X.base CX k f fd ps sp) (hr : Room k X.A) (hb : Binds X.K fd ps []) (hx : ∀ τ, PassesAt CX X τ (E τ)) (ha : PA X (e :: es) t)
    (hst : starEach (e :: es) X.env = (false, eval e X.env) :: starEach es X.env := by rfl) (hpl : (backTo pos (starEach es X.env)).any (·.1) = false := by rfl)
    (ht : eval (.Call (.Attribute o m apos) (e :: es) [] pos) X.env = (do
      let ov ← eval o X.env
      standAt apos.atName
      let (f, first) ← holding [ov] (getMethod ov m pl)
      callWith pos f first (backTo pos (starEach (e :: es) X.env)) (backToKw pos (keywordEach [] X.env))) := by rfl) :
    PE X (.Call (.Attribute o m apos) (e :: es) [] pos) (tMethS C m sp E ta t) := by
  refine ⟨fun pins s τ G Q I h => PySem.W.methodCall_KW (pl := pl) (thn (he.run pins s τ G _ I h) fun u s1 ⟨x, G1, I1, rx, a, dx, fs, ex, ea, l, q⟩ => ?_) ht⟩
  subst ex
  obtain rfl : u = Value.ref a := rx
  exact getmeth_ok I1 ea c hm l (PySem.W.callWith_K (first := [.ref a]) (h₀ := X.base) I.ok.mod.kin hm.kp (thn (ha.run pos pins s1 τ G1 _ I1 q) fun us s2 ⟨vs, G2, I2, r, q2⟩ => ⟨I2.kIn, run_fnS (us := .ref a :: us) (vs := .ref a :: vs) F hr hb (hx τ) I2 (.cons rfl r) q2⟩) hst hpl)
end
end FsT

set_option Elab.async false
set_option linter.all false
set_option maxRecDepth 100000
set_option maxHeartbeats 8000000
/-! the law's parts: what joining gives -/
namespace Fs
open PySem L2 Evl FsE FsC FsR FsA FsD FsU FsK FsT FsQ
/-- what is told, and the table behind it -/
def Out (ns : List Str) (ks : List Int) (ms : List Str) (qs : List Int) (o1 o2 : Str) (rs : List Str) (rk : List Int) : Prop :=
  (o1 = "clash" ∧ Least o2 (clR ns ks ms qs) ∧ rs = ns ∧ rk = ks) ∨ (o1 = "term" ∧ o2 = "definitions" ∧ clR ns ks ms qs = [] ∧ 12 < (jn ns ks ms qs).1.length ∧ rs = ns ∧ rk = ks) ∨
  (o1 = "" ∧ o2 = "" ∧ clR ns ks ms qs = [] ∧ (jn ns ks ms qs).1.length ≤ 12 ∧ rs = (jn ns ks ms qs).1 ∧ rk = (jn ns ks ms qs).2)
theorem Out.uniq {ns ms : List Str} {ks qs : List Int} {o1 o2 p1 p2 : Str} {rs ss : List Str} {rk sk : List Int} (h : Out ns ks ms qs o1 o2 rs rk) (g : Out ns ks ms qs p1 p2 ss sk) : o1 = p1 ∧ o2 = p2 ∧ rs = ss ∧ rk = sk := by
  have no : ∀ {m : Str}, Least m (clR ns ks ms qs) → clR ns ks ms qs = [] → False := fun hm hn => by
    rw [hn] at hm
    exact nomatch hm.1
  rcases h with ⟨rfl, h2, rfl, rfl⟩ | ⟨rfl, rfl, h3, h4, rfl, rfl⟩ | ⟨rfl, rfl, h3, h4, rfl, rfl⟩ <;> rcases g with ⟨rfl, g2, rfl, rfl⟩ | ⟨rfl, rfl, g3, g4, rfl, rfl⟩ | ⟨rfl, rfl, g3, g4, rfl, rfl⟩
  · exact ⟨rfl, h2.uniq g2 (fun _ => Iff.rfl), rfl, rfl⟩
  · exact (no h2 g3).elim
  · exact (no h2 g3).elim
  · exact (no g2 h3).elim
  · exact ⟨rfl, rfl, rfl, rfl⟩
  · omega
  · exact (no g2 h3).elim
  · omega
  · exact ⟨rfl, rfl, rfl, rfl⟩
theorem jn_in {ns : List Str} {ks : List Int} {z : Str} {q : Int} {ms : List Str} {qs : List Int} (h : z ∈ ns) : jn ns ks (z :: ms) (q :: qs) = jn ns ks ms qs := by rw [jn, if_pos h]
theorem jn_out {ns : List Str} {ks : List Int} {z : Str} {q : Int} {ms : List Str} {qs : List Int} (h : z ∉ ns) : jn ns ks (z :: ms) (q :: qs) = jn (ns ++ [z]) (ks ++ [q]) ms qs := by rw [jn, if_neg h]
theorem clR_eq {ns : List Str} {ks : List Int} {z : Str} {q : Int} {ms : List Str} {qs : List Int} (h : z ∈ ns) (e : mkOf ns ks z = q) : clR ns ks (z :: ms) (q :: qs) = clR ns ks ms qs := by rw [clR, if_pos h, if_pos e]
theorem clR_ne {ns : List Str} {ks : List Int} {z : Str} {q : Int} {ms : List Str} {qs : List Int} (h : z ∈ ns) (e : mkOf ns ks z ≠ q) : clR ns ks (z :: ms) (q :: qs) = z :: clR ns ks ms qs := by rw [clR, if_pos h, if_neg e]
theorem clR_out {ns : List Str} {ks : List Int} {z : Str} {q : Int} {ms : List Str} {qs : List Int} (h : z ∉ ns) : clR ns ks (z :: ms) (q :: qs) = clR (ns ++ [z]) (ks ++ [q]) ms qs := by rw [clR, if_neg h]
theorem drop_at {α : Type} {xs : List α} {i : Nat} {x : α} (h : xs[i]? = some x) : xs.drop i = x :: xs.drop (i + 1) := by
  obtain ⟨h1, h2⟩ := List.getElem?_eq_some_iff.mp h
  rw [List.drop_eq_getElem_cons h1, h2]
theorem least_ex : ∀ {xs : List Str}, xs ≠ [] → ∃ m, Least m xs
  | [], h => absurd rfl h
  | x :: xs, _ => ⟨_, minOf_ok xs x⟩
section
variable {σ : L2.St} {H : Hp} {te ta tb tc td : TE} {tz : TS} {D : Ends} {K : PySem.W.Frag} {x y z v : V} {Pv : V → Hp → Prop}
theorem el_catV {l : Addr} {xs ys : List V} (ha : Ev ta σ H (.ref l)) (hl : H l = some (.lst xs)) (hb : EvL tb σ H ys) (hz : xs.length + ys.length ≤ 100000) : EvL (tOp rCat ta tb) σ H (xs ++ ys) := fun H1 e Q q =>
  ha H1 e _ fun H2 e2 => hb H2 (e.trans e2) _ fun r H3 hr e3 h3 => ⟨l, r, xs, ys, rfl, rfl, ((e.trans e2).trans e3) _ _ hl, h3, sz_of (by omega), fun u hu => q u _ (fresh_back (e2.trans e3) hu) ((e2.trans e3).trans (Ex.new hu)) upd_same⟩
/-- ((x, y), z) -/
theorem es_two1 (hx : Ev ta σ H x) (hy : Ev tb σ H y) (hz : Ev tc σ H z) : EvS (tTup (tCons (tTup (tCons ta (tCons tb tNil))) (tCons tc tNil))) σ H (fun v H' => ∃ r e, v = .ref r ∧ H' r = some (.tup [.ref e, z]) ∧ H' e = some (.tup [x, y])) := fun H0 e Q q =>
  hx H0 e _ fun H1 e1 => hy H1 (e.trans e1) _ fun H2 e2 => ⟨by show 2 ≤ sizeLine; decide, fun a ha => hz _ (((e.trans e1).trans e2).trans (Ex.new ha)) _ fun H3 e3 => ⟨by show 2 ≤ sizeLine; decide, fun p hp => q (.ref p) _ ((((e1.trans e2).trans (Ex.new ha)).trans e3).trans (Ex.new hp)) ⟨p, a, rfl, upd_same, (e3.trans (Ex.new hp)) _ _ upd_same⟩⟩⟩
/-- ((x, y), (z, v)) -/
theorem es_two2 (hx : Ev ta σ H x) (hy : Ev tb σ H y) (hz : Ev tc σ H z) (hv : Ev td σ H v) : EvS (tTup (tCons (tTup (tCons ta (tCons tb tNil))) (tCons (tTup (tCons tc (tCons td tNil))) tNil))) σ H (fun v' H' => ∃ r e t, v' = .ref r ∧ H' r = some (.tup [.ref e, .ref t]) ∧ H' e = some (.tup [x, y]) ∧ H' t = some (.tup [z, v])) := fun H0 e Q q =>
  hx H0 e _ fun H1 e1 => hy H1 (e.trans e1) _ fun H2 e2 => ⟨by show 2 ≤ sizeLine; decide, fun a ha => hz _ (((e.trans e1).trans e2).trans (Ex.new ha)) _ fun H3 e3 => hv H3 ((((e.trans e1).trans e2).trans (Ex.new ha)).trans e3) _ fun H4 e4 => ⟨by show 2 ≤ sizeLine; decide, fun b hb => ⟨by show 2 ≤ sizeLine; decide, fun p hp => q (.ref p) _ ((((((e1.trans e2).trans (Ex.new ha)).trans e3).trans e4).trans (Ex.new hb)).trans (Ex.new hp)) ⟨p, a, b, rfl, upd_same, (((e3.trans e4).trans (Ex.new hb)).trans (Ex.new hp)) _ _ upd_same, (Ex.new hp) _ _ upd_same⟩⟩⟩⟩
end
section
variable {P : Program} {w : World} {K : PySem.W.Frag} {mg : Str → Option Value} {base : Heap} {C CB CK CN CD t0 : Addr}
/-- _law_due -/
def spDueB : Sp := fun vs H Q _ => ∃ (t u : Addr) (ns ms : List Str) (ks qs : List Int), vs = [.ref t, .ref u] ∧ RoAt H t ns ks ∧ RoAt H u ms qs ∧ RoOk ns ks ∧ RoOk ms qs ∧ ns.length ≤ 12 ∧ ms.length ≤ 12 ∧
  ∀ o1 o2 rs rk, Out ns ks ms qs o1 o2 rs rk → RoOk rs rk → ∀ r e x H', Ex H H' → H' r = some (.tup [.ref e, .ref x]) → H' e = some (.tup [.str o1, .str o2]) → RoAt H' x rs rk → Q (.ref r) H'
abbrev nsDueB : List Str := ["_law_one", "_law_two_here", "_law_names", "_law_marks", "_law_clashes", "_law_k", "_law_name"]
theorem scDueB : FnScope nsDueB ["_law_one", "_law_two_here"] (defScope (topS 49)) := ⟨rfl, rfl, rfl, by decide +kernel, rfl, by decide +kernel, by decide +kernel⟩
theorem ok_dueB {f : Addr} {fd : FuncData} (F : Fun K "_law_due" "_law_due" (topS 49) f fd) (L : LawT K mg) (hmin : mg "min" = none) : FnOk P w K mg base CX0 1 f fd ["_law_one", "_law_two_here"] spDueB := by
  refine F.ok scDueB (fun vs H Q E h => ?_) (fun cdv A outer s H vs Q E hr h => ?_)
  · obtain ⟨t, u, ns, ms, ks, qs, rfl, _⟩ := h
    rfl
  · obtain ⟨t, u, ns, ms, ks, qs, rfl, ⟨nl, ml, a1, a2, a3⟩, ⟨nl2, ml2, b1, b2, b3⟩, ok, ok2, ln, lm, q⟩ := h
    refine ⟨_, pss_cons (ps_set (i := 2) scDueB.nd rfl (Or.inl rfl) (pe_op op_cat (pe_ix ix_tup (pv 0) pe_int (fun _ _ => rfl)) (pe_lst pa_nil)))
      (pss_cons (ps_set (i := 3) scDueB.nd rfl (Or.inl rfl) (pe_op op_cat (pe_ix ix_tup (pv 0) pe_int (fun _ _ => rfl)) (pe_lst pa_nil)))
      (pss_cons (ps_set (i := 4) scDueB.nd rfl (Or.inl rfl) (pe_lst pa_nil))
      (pss_cons (ps_for PassesOwn.never rfl (pi_range1 rfl L.range (pa_cons (pe_callB call_len_seq (by rfl) L.len PySem.boot_len (pa_cons (pe_ix ix_tup (pv 1) pe_int (fun _ _ => rfl)) pa_nil)) pa_nil)) (pg_name (i := 5) scDueB.nd rfl (Or.inl rfl))
        (pss_cons (ps_set (i := 6) scDueB.nd rfl (Or.inl rfl) (pe_ix ix_list (pe_ix ix_tup (pv 1) pe_int (fun _ _ => rfl)) (pv 5) (fun _ _ => rfl)))
        (pss_one (ps_if (pt_cmpR op_notIn_seq (pv 6) (pv 2) (by rfl))
          (pss_cons (ps_expr (pe_bm PySem.F.plainAttrs_list PySem.F.slot_list_append PySem.F.type_list_append mt_append (pv 2) (pa_cons (pv 6) pa_nil)))
            (pss_one (ps_expr (pe_bm PySem.F.plainAttrs_list PySem.F.slot_list_append PySem.F.type_list_append mt_append (pv 3) (pa_cons (pe_ix ix_list (pe_ix ix_tup (pv 1) pe_int (fun _ _ => rfl)) (pv 5) (fun _ _ => rfl)) pa_nil)))))
          (pss_one (ps_if (pt_cmpR op_ne (pe_ix ix_list (pv 3) (pe_bm PySem.F.plainAttrs_list PySem.F.slot_list_index PySem.F.type_list_index mt_index (pv 2) (pa_cons (pv 6) pa_nil)) (fun _ _ => rfl)) (pe_ix ix_list (pe_ix ix_tup (pv 1) pe_int (fun _ _ => rfl)) (pv 5) (fun _ _ => rfl)) (nomark _))
            (pss_one (ps_expr (pe_bm PySem.F.plainAttrs_list PySem.F.slot_list_append PySem.F.type_list_append mt_append (pv 4) (pa_cons (pv 6) pa_nil)))) pss_nil))))))
      (pss_cons (ps_if (pt_cmpR (op_neNil hr.units0) (pv 4) (pe_lst pa_nil) (nomark _)) (pss_one (ps_ret (pe_tup (pa_cons (pe_tup (pa_cons pe_str (pa_cons (pe_callB (cr_minS rfl (hu2_of hr)) (by rfl) hmin (by decide +kernel) (pa_cons (pv 4) pa_nil)) pa_nil))) (pa_cons (pv 0) pa_nil))))) pss_nil)
      (pss_cons (ps_if (pt_cmpR op_gt (pe_callB call_len_seq (by rfl) L.len PySem.boot_len (pa_cons (pv 2) pa_nil)) pe_int (nomark _)) (pss_one (ps_ret (pe_tup (pa_cons (pe_tup (pa_cons pe_str (pa_cons pe_str pa_nil))) (pa_cons (pv 0) pa_nil))))) pss_nil)
      (pss_one (ps_ret (pe_tup (pa_cons (pe_tup (pa_cons pe_str (pa_cons pe_str pa_nil))) (pa_cons (pe_tup (pa_cons (pv 2) (pa_cons (pv 3) pa_nil))) pa_nil)))))))))), ?_⟩
    refine q_asgL (xs := ns.map V.str) (by rw [← List.append_nil (ns.map V.str)]; exact el_catV (ev_op (x := .ref t) (y := .int 0) (ev_var rfl) ev_c (rv_ixT (K := K) (st_of a1) rfl)) a2 (el_lst ea_nil (by decide)) (by rw [List.length_map, List.length_nil]; omega)) (fun nn H1 hnn e1 h1 => ?_)
    refine q_asgL (xs := ks.map V.int) (by rw [← List.append_nil (ks.map V.int)]; exact el_catV (ev_op (x := .ref t) (y := .int 1) (ev_var rfl) ev_c (rv_ixT (K := K) (st_of (e1 _ _ a1)) rfl)) (e1 _ _ a3) (el_lst ea_nil (by decide)) (by rw [List.length_map, List.length_nil, ok.len]; omega)) (fun mm H2 hmm e2 h2 => ?_)
    refine q_asgL (xs := []) (el_lst ea_nil (by decide)) (fun cc H3 hcc e3 h3 => ?_)
    have x3 := (e1.trans e2).trans e3
    have hmm0 : H mm = none := fresh_back e1 hmm
    have hcc0 : H cc = none := fresh_back (e1.trans e2) hcc
    have n1 : nn ≠ mm := ne_of_none h1 hmm
    have n2 : nn ≠ cc := ne_of_none (e2 _ _ h1) hcc
    have n3 : mm ≠ cc := ne_of_none h2 hcc
    have two0 : ∀ (H9 : Hp) (vs : L2.St), Ex H H9 → vs[1]? = some (some (.ref u)) → Ev (tOp (rIxT K) (tVar 1) (tC (.int 0))) vs H9 (.ref nl2) := fun H9 vs e9 s1 => ev_op (x := .ref u) (y := .int 0) (ev_var s1) ev_c (rv_ixT (K := K) (st_of (e9 _ _ b1)) rfl)
    have two1 : ∀ (H9 : Hp) (vs : L2.St), Ex H H9 → vs[1]? = some (some (.ref u)) → Ev (tOp (rIxT K) (tVar 1) (tC (.int 1))) vs H9 (.ref ml2) := fun H9 vs e9 s1 => ev_op (x := .ref u) (y := .int 1) (ev_var s1) ev_c (rv_ixT (K := K) (st_of (e9 _ _ b1)) rfl)
    refine q_forR1 (n := (ms.length : Int)) (ea_cons (ev_is (ev_lenA (K := K) (two0 H3 _ x3 rfl) (.inl (sq_of (x3 _ _ b2)))) (by rw [List.length_map])) ea_nil) (by omega)
      (fun i σ' H' => ∃ (ns' : List Str) (ks' : List Int) (cs : List Str) (v5 v6 : Option V), σ' = [some (.ref t), some (.ref u), some (.ref nn), some (.ref mm), some (.ref cc), v5, v6] ∧ RoOk ns' ks' ∧ ns'.length ≤ 12 + i ∧ jn ns' ks' (ms.drop i) (qs.drop i) = jn ns ks ms qs ∧ cs ++ clR ns' ks' (ms.drop i) (qs.drop i) = clR ns ks ms qs ∧ cs.length ≤ i ∧ H' nn = some (.lst (ns'.map V.str)) ∧ H' mm = some (.lst (ks'.map V.int)) ∧ H' cc = some (.lst (cs.map V.str)) ∧ Ex H H')
      (fun H4 e4 => ⟨ns, ks, [], _, _, rfl, ok, by omega, rfl, rfl, Nat.le_refl _, ((e2.trans e3).trans e4) _ _ h1, (e3.trans e4) _ _ h2, e4 _ _ h3, x3.trans e4⟩)
      (fun i σ' H' hi ⟨ns', ks', cs, v5, v6, hσ, ok', hl, hj, hc, hcl, k1, k2, k3, he⟩ => ?_) (fun σ' H' ⟨ns', ks', cs, v5, v6, hσ, ok', hl, hj, hc, hcl, k1, k2, k3, he⟩ => ?_)
    · subst hσ
      have hi' : i < ms.length := by omega
      have hz : ms[i]? = some ms[i] := List.getElem?_eq_getElem hi'
      have hiq : i < qs.length := by rw [ok2.len]; exact hi'
      have hq : qs[i]? = some qs[i] := List.getElem?_eq_getElem hiq
      generalize ms[i] = z at hz
      generalize qs[i] = m at hq
      rw [drop_at hz, drop_at hq] at hj hc
      refine q_asg (v := .str z) (ev_ixZ (K := K) (two0 H' _ he rfl) (ev_var rfl) (he _ _ b2) hz) (fun H4 e4 => ?_)
      have x4 := he.trans e4
      refine s_if (b := !decide (z ∈ ns')) (et_is (et_test (ev_op (ev_var rfl) (ev_var rfl) (rv_niL (sq_of (e4 _ _ k1)) rfl flat_ns))) (by rw [inV_ns])) (fun hb H5 e5 => ?_) (fun hb H5 e5 => ?_)
      · have hzn : z ∉ ns' := by simpa using hb
        rw [jn_out hzn] at hj
        rw [clR_out hzn] at hc
        refine q_app (xs := ns'.map V.str) (v := .str z) ((e4.trans e5) _ _ k1) (ev_var rfl) (ev_var rfl) (by rw [List.length_map]; omega) (fun H6 e6 => ?_)
        have x6 := (e4.trans e5).trans e6
        have w6 : Ex H (upd H6 nn (.lst (ns'.map V.str ++ [.str z]))) := Ex.mut (he.trans x6) hnn
        refine s_app (xs := ks'.map V.int) (v := .int m) (by rw [upd_ne n1.symm]; exact x6 _ _ k2) (ev_var rfl) (ev_ixI (K := K) (two1 _ _ w6 rfl) (ev_var rfl) (w6 _ _ b3) hq) (by rw [List.length_map, ok'.len]; omega) (fun H7 e7 => ?_)
        refine ⟨ns' ++ [z], ks' ++ [m], cs, _, _, rfl, ok'.new hzn (ok2.nm z (List.mem_of_getElem? hz)) (ok2.mks m (List.mem_of_getElem? hq)), by rw [List.length_append]; show ns'.length + 1 ≤ _; omega, hj, hc, by omega, ?_, ?_, ?_, Ex.mut (w6.trans e7) hmm0⟩
        · rw [upd_ne n1, e7 _ _ upd_same, List.map_append]
          rfl
        · rw [upd_same, List.map_append]
          rfl
        · rw [upd_ne n3.symm]
          exact e7 _ _ (by rw [upd_ne n2.symm]; exact x6 _ _ k3)
      · have hzm : z ∈ ns' := by simpa using hb
        rw [jn_in hzm] at hj
        have x5 := e4.trans e5
        obtain ⟨j, hjz⟩ := List.mem_iff_getElem?.mp hzm
        have hjk : j < ks'.length := by rw [ok'.len]; exact (List.getElem?_eq_some_iff.mp hjz).1
        have hkj : ks'[j]? = some ks'[j] := List.getElem?_eq_getElem hjk
        generalize ks'[j] = m' at hkj
        have mk' : mkOf ns' ks' z = m' := mkOf_at ok'.nd hjz hkj
        refine s_when (b := !decide (V.int m' = V.int m)) (et_test (ev_op (x := .int m') (y := .int m) (ev_ixI (K := K) (ev_var rfl) (ev_index (ev_var rfl) (ev_var rfl) (x5 _ _ k1) ok'.nd hjz) (x5 _ _ k2) hkj) (ev_ixI (K := K) (two1 _ _ (he.trans x5) rfl) (ev_var rfl) ((he.trans x5) _ _ b3) hq) (rv_ne rfl))) (fun hb2 H6 e6 => ?_) (fun hb2 H6 e6 => ?_)
        · have hne : mkOf ns' ks' z ≠ m := fun y => by
            rw [mk'] at y
            rw [y, decide_eq_true rfl] at hb2
            cases hb2
          rw [clR_ne hzm hne] at hc
          refine s_app (xs := cs.map V.str) (v := .str z) ((x5.trans e6) _ _ k3) (ev_var rfl) (ev_var rfl) (by rw [List.length_map]; omega) (fun H7 e7 => ?_)
          have x7 := (x5.trans e6).trans e7
          refine ⟨ns', ks', cs ++ [z], _, _, rfl, ok', by omega, hj, by rw [List.append_assoc]; exact hc, by rw [List.length_append]; show cs.length + 1 ≤ _; omega, ?_, ?_, ?_, Ex.mut (he.trans x7) hcc0⟩
          · rw [upd_ne n2]
            exact x7 _ _ k1
          · rw [upd_ne n3]
            exact x7 _ _ k2
          · rw [upd_same, List.map_append]
            rfl
        · have heq : mkOf ns' ks' z = m := by
            have : V.int m' = V.int m := by simpa using hb2
            injection this with this
            rw [mk', this]
          rw [clR_eq hzm heq] at hc
          have x6 := x5.trans e6
          exact ⟨ns', ks', cs, _, _, rfl, ok', by omega, hj, hc, by omega, x6 _ _ k1, x6 _ _ k2, x6 _ _ k3, he.trans x6⟩
    · subst hσ
      have e0 : ((ms.length : Int)).toNat = ms.length := by omega
      rw [e0] at hj hc hl hcl
      rw [List.drop_length, ← ok2.len, List.drop_length] at hj hc
      have hj1 : (ns', ks') = jn ns ks ms qs := hj
      have hc1 : cs = clR ns ks ms qs := by
        rw [← hc]
        show cs = cs ++ []
        rw [List.append_nil]
      have j1 : (jn ns ks ms qs).1 = ns' := by rw [← hj1]
      have j2 : (jn ns ks ms qs).2 = ks' := by rw [← hj1]
      refine q_when (b := !((cs.map V.str).isEmpty)) (et_test (ev_opL (ev_var rfl) (el_lst ea_nil (by decide)) (fun p H9 hp e9 => rv_neNil (sq_of (e9 _ _ k3)) (sq_of hp)))) (fun hb H4 e4 => ?_) (fun hb H4 e4 => ?_)
      · have hne : cs ≠ [] := fun y => by
          rw [y] at hb
          cases hb
        obtain ⟨m, hm⟩ := least_ex hne
        refine s_retS (es_two1 (x := .str "clash") (y := .str m) (z := .ref t) ev_c (ev_minS (ev_var rfl) (e4 _ _ k3) hm) (ev_var rfl)) (fun v H5 e5 ⟨r, e, hv, g1, g2⟩ => ?_)
        subst hv
        have x5 := (he.trans e4).trans e5
        exact q "clash" m ns ks (.inl ⟨rfl, by rw [← hc1]; exact hm, rfl, rfl⟩) ok r e t H5 x5 g1 g2 ⟨nl, ml, x5 _ _ a1, x5 _ _ a2, x5 _ _ a3⟩
      · have hnil : clR ns ks ms qs = [] := by
          rw [← hc1]
          cases z : cs with
          | nil => rfl
          | cons y ys =>
            rw [z] at hb
            cases hb
        refine q_when (b := decide ((12 : Int) < (ns'.length : Int))) (et_test (ev_op (ev_is (ev_lenA (K := K) (ev_var rfl) (.inl (sq_of (e4 _ _ k1)))) (by rw [List.length_map])) ev_c rv_I0)) (fun hb2 H5 e5 => ?_) (fun hb2 H5 e5 => ?_)
        · have hz := of_decide_eq_true hb2
          refine s_retS (es_two1 (x := .str "term") (y := .str "definitions") (z := .ref t) ev_c ev_c (ev_var rfl)) (fun v H6 e6 ⟨r, e, hv, g1, g2⟩ => ?_)
          subst hv
          have x6 := ((he.trans e4).trans e5).trans e6
          exact q "term" "definitions" ns ks (.inr (.inl ⟨rfl, rfl, hnil, by rw [j1]; omega, rfl, rfl⟩)) ok r e t H6 x6 g1 g2 ⟨nl, ml, x6 _ _ a1, x6 _ _ a2, x6 _ _ a3⟩
        · have hz := of_decide_eq_false hb2
          refine s_retS (es_two2 (x := .str "") (y := .str "") (z := .ref nn) (v := .ref mm) ev_c ev_c (ev_var rfl) (ev_var rfl)) (fun v H6 e6 ⟨r, e, x, hv, g1, g2, g3⟩ => ?_)
          subst hv
          have x6 := (e4.trans e5).trans e6
          refine q "" "" ns' ks' (.inr (.inr ⟨rfl, rfl, hnil, by rw [j1]; omega, j1.symm, j2.symm⟩)) ok' r e x H6 (he.trans x6) g1 g2 ⟨nn, mm, g3, x6 _ _ k1, x6 _ _ k2⟩
end
end Fs

set_option Elab.async false
set_option linter.all false
set_option maxRecDepth 100000
set_option maxHeartbeats 8000000
/-! the law's parts: | and |= tried, tables equal -/
namespace Fs
open PySem L2 Evl FsE FsC FsR FsA FsD FsU FsK FsT FsQ
theorem lk1 {f : Str} {v : V} : List.lookup f [(f, v)] = some v := by rw [List.lookup_cons, beq_self_eq_true]
theorem eqv_strs (ys zs : List Str) : PyData.eqv (.list (ys.map PyData.str)) (.list (zs.map PyData.str)) = decide (ys = zs) := by
  have h := PySem.W.eqvAll_map (α := Str) ys zs
  rw [PyData.eqv]
  exact h
section
variable {P : Program} {w : World} {K : PySem.W.Frag} {mg : Str → Option Value} {base : Heap} {C CB CK CN CD t0 : Addr}
abbrev clN (K : PySem.W.Frag) (CN : Addr) : Addr → Value → Option Addr → TS := fun a cls d => tRet (tTup (tCons (tTup (tCons (tC (.str "clash")) (tCons (tXf a cls d CN "name" (tVar 2)) tNil))) (tCons (tVar 0) tNil)))
abbrev clB (K : PySem.W.Frag) (CB : Addr) : Addr → Value → Option Addr → TS := fun a cls d => tRet (tTup (tCons (tTup (tCons (tC (.str "term")) (tCons (tXf a cls d CB "field" (tVar 2)) tNil))) (tCons (tVar 0) tNil)))
/-- _law_joined -/
def spJo (CK CD C : Addr) : Sp := fun vs H Q _ => ∃ (a b : Addr) (ns ms : List Str) (ks qs : List Int), vs = [.ref a, .ref b] ∧ BT CK CD C H a ns ks ∧ BT CK CD C H b ms qs ∧ ns.length ≤ 12 ∧ ms.length ≤ 12 ∧
  ∀ o1 o2 rs rk, Out ns ks ms qs o1 o2 rs rk → ∀ r e x H', Ex H H' → H' r = some (.tup [.ref e, .ref x]) → H' e = some (.tup [.str o1, .str o2]) → BT CK CD C H' x rs rk → (o1 = "" → H x = none) → Q (.ref r) H'
theorem scJo : FnScope ["_law_one", "_law_two_here", "e"] ["_law_one", "_law_two_here"] (defScope (topS 50)) := ⟨rfl, rfl, rfl, by decide +kernel, rfl, by decide +kernel, by decide +kernel⟩
theorem ok_jo {f fg : Addr} {fd gd : FuncData} {k : Nat} (F : Fun K "_law_joined" "_law_joined" (topS 50) f fd) (E1 : ErrT K mg CB CN) (M : OpM K CK .BitOr fg) (FO : FnOk P w K mg base (L2.CX P w) k fg gd ["self", "other"] (spBkOr CK CB CN CD C)) (BO : Binds K gd ["self", "other"] []) : FnOk P w K mg base CX0 (k + 1) f fd ["_law_one", "_law_two_here"] (spJo CK CD C) := by
  refine F.ok scJo (fun vs H Q E h => ?_) (fun cdv A outer s H vs Q E hr h => ?_)
  · obtain ⟨a, b, ns, ms, ks, qs, rfl, _⟩ := h
    rfl
  · obtain ⟨a, b, ns, ms, ks, qs, rfl, ha, hb, ln, lm, q⟩ := h
    refine ⟨_, pss_one (ps_try_all (qs := [(.ref CN, 2, clN K CN), (.ref CB, 2, clB K CB)])
        (tb := fun W => tRet (tTup (tCons (tTup (tCons (tC (.str "")) (tCons (tC (.str "")) tNil))) (tCons (tOwn CK (spBkOr CK CB CN CD C) (WE W) (tVar 0) (tVar 1)) tNil)))) (W0 := fun _ _ _ _ => False) rfl rfl scJo.nd takes0
        (fun W pn xe tk _ => pss_one (ps_ret (by exact (pe_tup (pa_cons (pe_tup (pa_cons pe_str (pa_cons pe_str pa_nil))) (pa_cons (pe_own (pv 0) (pv 1) M FO hr BO (fun σ => passAt tk σ)) pa_nil))))))
        (.one rfl rfl ⟨rfl, by decide, Or.inl E1.gN⟩ (fun a oe cls d pn hz hf => pss_one (ps_ret (by exact (pe_tup (pa_cons (pe_tup (pa_cons pe_str (pa_cons (pe_xf E1.xN E1.nN hz hf (pv 2)) pa_nil))) (pa_cons (pv 0) pa_nil))))))
          (.one rfl rfl ⟨rfl, by decide, Or.inl E1.gB⟩ (fun a oe cls d pn hz hf => pss_one (ps_ret (by exact (pe_tup (pa_cons (pe_tup (pa_cons pe_str (pa_cons (pe_xf E1.xB E1.nB hz hf (pv 2)) pa_nil))) (pa_cons (pv 0) pa_nil)))))) .none))), ?_⟩
    refine ⟨by show 2 ≤ sizeLine; decide, fun e0 he0 => ?_⟩
    have x0 : Ex H (upd H e0 (.tup [.str "", .str ""])) := Ex.new he0
    have ha0 := ha.ex x0
    have hb0 := hb.ex x0
    obtain ⟨kvs, ⟨dx, d1, a1, a2⟩, ta⟩ := id ha0
    obtain ⟨wvs, ⟨dy, d2, b1, b2⟩, tb⟩ := id hb0
    refine ⟨_, rfl, _, rfl, a, b, dx, dy, _, _, rfl, rfl, a1, b1, a, b, ns, ms, ks, qs, rfl, ha0, hb0, ln, lm, fun hc hl x H1 hx e1 h1 => ?_, fun hc hl d9 H1 e1 hd9 h9 => ?_, fun m hm d9 H1 e1 hd9 h9 => ?_⟩
    · refine ⟨by show 2 ≤ sizeLine; decide, fun r hr9 => ?_⟩
      exact q "" "" _ _ (.inr (.inr ⟨rfl, rfl, hc, hl, rfl, rfl⟩)) r e0 x _ ((x0.trans e1).trans (Ex.new hr9)) upd_same ((e1.trans (Ex.new hr9)) _ _ upd_same) (h1.ex (Ex.new hr9)) (fun _ => fresh_back x0 hx)
    · refine ⟨false, E1.tX, (fun z => nomatch z), fun _ => ⟨true, E1.tB, fun _ a0 ha0' => ?_, (fun z => nomatch z)⟩⟩
      refine ⟨_, rfl, rfl, rfl, d9, _, .str "definitions", rfl, h9, lk1, by show 2 ≤ sizeLine; decide, fun e2 he2 => ⟨_, rfl, by show 2 ≤ sizeLine; decide, fun r hr9 => ?_⟩⟩
      have x9 := (((x0.trans e1).trans (Ex.new (o := .tup [.str "term", .str "definitions"]) he2)).trans (Ex.new (o := .tup [.ref e2, .ref a]) hr9))
      exact q "term" "definitions" _ _ (.inr (.inl ⟨rfl, rfl, hc, hl, rfl, rfl⟩)) r e2 a _ x9 upd_same ((Ex.new hr9) _ _ upd_same) (ha.ex x9) (fun z => absurd z (by decide +kernel))
    · refine ⟨true, E1.tN, fun _ a0 ha0' => ?_, (fun z => nomatch z)⟩
      refine ⟨_, rfl, rfl, rfl, d9, _, .str m, rfl, h9, lk1, by show 2 ≤ sizeLine; decide, fun e2 he2 => ⟨_, rfl, by show 2 ≤ sizeLine; decide, fun r hr9 => ?_⟩⟩
      have x9 := (((x0.trans e1).trans (Ex.new (o := .tup [.str "clash", .str m]) he2)).trans (Ex.new (o := .tup [.ref e2, .ref a]) hr9))
      exact q "clash" m _ _ (.inl ⟨rfl, hm, rfl, rfl⟩) r e2 a _ x9 upd_same ((Ex.new hr9) _ _ upd_same) (ha.ex x9) (fun z => absurd z (by decide +kernel))
/-- _law_extended -/
def spExtB (CK CD C : Addr) : Sp := fun vs H Q _ => ∃ (a b : Addr) (ns ms : List Str) (ks qs : List Int), vs = [.ref a, .ref b] ∧ BT CK CD C H a ns ks ∧ BT CK CD C H b ms qs ∧ ns.length ≤ 12 ∧ ms.length ≤ 12 ∧
  ∀ o1 o2 rs rk, Out ns ks ms qs o1 o2 rs rk → ∀ r e H', ExB a H H' → H' r = some (.tup [.ref e, .ref a]) → H' e = some (.tup [.str o1, .str o2]) → BT CK CD C H' a rs rk → Q (.ref r) H'
theorem scExtB : FnScope ["_law_one", "_law_two_here", "e"] ["_law_one", "_law_two_here"] (defScope (topS 51)) := ⟨rfl, rfl, rfl, by decide +kernel, rfl, by decide +kernel, by decide +kernel⟩
theorem ok_extB {f fg : Addr} {fd gd : FuncData} {k : Nat} (F : Fun K "_law_extended" "_law_extended" (topS 51) f fd) (E1 : ErrT K mg CB CN) (M : InM K CK .BitOr fg) (FO : FnOk P w K mg base (L2.CX P w) k fg gd ["self", "other"] (spBkIor CK CB CN CD C)) (BO : Binds K gd ["self", "other"] []) : FnOk P w K mg base CX0 (k + 1) f fd ["_law_one", "_law_two_here"] (spExtB CK CD C) := by
  refine F.ok scExtB (fun vs H Q E h => ?_) (fun cdv A outer s H vs Q E hr h => ?_)
  · obtain ⟨a, b, ns, ms, ks, qs, rfl, _⟩ := h
    rfl
  · obtain ⟨a, b, ns, ms, ks, qs, rfl, ha, hb, ln, lm, q⟩ := h
    refine ⟨_, pss_cons (ps_try_all (qs := [(.ref CN, 2, clN K CN), (.ref CB, 2, clB K CB)])
        (tb := fun W => tAugO CK (spBkIor CK CB CN CD C) (WE W) 0 (tVar 1)) (W0 := fun _ _ _ _ => False) rfl rfl scExtB.nd takes0
        (fun W pn xe tk _ => pss_one (by exact (ps_augO (i := 0) scExtB.nd rfl (Or.inl rfl) (pv 1) M FO hr BO (fun σ => passAt tk σ))))
        (.one rfl rfl ⟨rfl, by decide, Or.inl E1.gN⟩ (fun a oe cls d pn hz hf => pss_one (ps_ret (by exact (pe_tup (pa_cons (pe_tup (pa_cons pe_str (pa_cons (pe_xf E1.xN E1.nN hz hf (pv 2)) pa_nil))) (pa_cons (pv 0) pa_nil))))))
          (.one rfl rfl ⟨rfl, by decide, Or.inl E1.gB⟩ (fun a oe cls d pn hz hf => pss_one (ps_ret (by exact (pe_tup (pa_cons (pe_tup (pa_cons pe_str (pa_cons (pe_xf E1.xB E1.nB hz hf (pv 2)) pa_nil))) (pa_cons (pv 0) pa_nil)))))) .none)))
      (pss_one (ps_ret (pe_tup (pa_cons (pe_tup (pa_cons pe_str (pa_cons pe_str pa_nil))) (pa_cons (pv 0) pa_nil))))), ?_⟩
    obtain ⟨kvs, ⟨dx, d1, a1, a2⟩, ta⟩ := id ha
    refine ⟨_, rfl, _, rfl, a, dx, _, rfl, a1, a, b, ns, ms, ks, qs, rfl, ha, hb, ln, lm, fun hc hl H1 e1 h1 => ?_, fun hc hl d9 H1 e1 hd9 h9 => ?_, fun m hm d9 H1 e1 hd9 h9 => ?_⟩
    · refine s_retS (es_two1 (x := .str "") (y := .str "") (z := .ref a) ev_c ev_c (ev_var rfl)) (fun v H5 e5 ⟨r, e, hv, g1, g2⟩ => ?_)
      subst hv
      exact q "" "" _ _ (.inr (.inr ⟨rfl, rfl, hc, hl, rfl, rfl⟩)) r e H5 (e1.trans (.of e5)) g1 g2 (h1.ex e5)
    · refine ⟨false, E1.tX, (fun z => nomatch z), fun _ => ⟨true, E1.tB, fun _ a0 ha0' => ?_, (fun z => nomatch z)⟩⟩
      refine ⟨_, rfl, rfl, rfl, d9, _, .str "definitions", rfl, h9, lk1, by show 2 ≤ sizeLine; decide, fun e2 he2 => ⟨_, rfl, by show 2 ≤ sizeLine; decide, fun r hr9 => ?_⟩⟩
      have x9 := ((e1.trans (Ex.new (o := .tup [.str "term", .str "definitions"]) he2)).trans (Ex.new (o := .tup [.ref e2, .ref a]) hr9))
      exact q "term" "definitions" _ _ (.inr (.inl ⟨rfl, rfl, hc, hl, rfl, rfl⟩)) r e2 _ (.of x9) upd_same ((Ex.new hr9) _ _ upd_same) (ha.ex x9)
    · refine ⟨true, E1.tN, fun _ a0 ha0' => ?_, (fun z => nomatch z)⟩
      refine ⟨_, rfl, rfl, rfl, d9, _, .str m, rfl, h9, lk1, by show 2 ≤ sizeLine; decide, fun e2 he2 => ⟨_, rfl, by show 2 ≤ sizeLine; decide, fun r hr9 => ?_⟩⟩
      have x9 := ((e1.trans (Ex.new (o := .tup [.str "clash", .str m]) he2)).trans (Ex.new (o := .tup [.ref e2, .ref a]) hr9))
      exact q "clash" m _ _ (.inl ⟨rfl, hm, rfl, rfl⟩) r e2 _ (.of x9) upd_same ((Ex.new hr9) _ _ upd_same) (ha.ex x9)
/-- _law_equal -/
def spLEq : Sp := fun vs H Q _ => ∃ (t u : Addr) (ns ms : List Str) (ks qs : List Int), vs = [.ref t, .ref u] ∧ RoAt H t ns ks ∧ RoAt H u ms qs ∧ RoOk ns ks ∧ RoOk ms qs ∧ ns.length ≤ 12 ∧ ms.length ≤ 12 ∧ ∀ b, (b = true ↔ Agree ns ks ms qs) → RetV (.bl b) H Q
theorem scLEq : FnScope ["_law_one", "_law_two_here", "_law_k"] ["_law_one", "_law_two_here"] (defScope (topS 52)) := ⟨rfl, rfl, rfl, by decide +kernel, rfl, by decide +kernel, by decide +kernel⟩
theorem ok_leq {f : Addr} {fd : FuncData} (F : Fun K "_law_equal" "_law_equal" (topS 52) f fd) (L : LawT K mg) (hs : mg "sorted" = none) (hall : mg "all" = none) : FnOk P w K mg base CX0 1 f fd ["_law_one", "_law_two_here"] spLEq := by
  refine F.ok scLEq (fun vs H Q E h => ?_) (fun cdv A outer s H vs Q E hr h => ?_)
  · obtain ⟨t, u, ns, ms, ks, qs, rfl, _⟩ := h
    rfl
  · obtain ⟨t, u, ns, ms, ks, qs, rfl, ⟨nl, ml, a1, a2, a3⟩, ⟨nl2, ml2, b1, b2, b3⟩, ok, ok2, ln, lm, q⟩ := h
    refine ⟨_, pss_cons (ps_if (pt_cmpR (op_neD hr.units) (pe_callB cr_sortedS (by rfl) hs (by decide +kernel) (pa_cons (pe_ix ix_tup (pv 0) pe_int (fun _ _ => rfl)) pa_nil)) (pe_callB cr_sortedS (by rfl) hs (by decide +kernel) (pa_cons (pe_ix ix_tup (pv 1) pe_int (fun _ _ => rfl)) pa_nil)) (nomark _)) (pss_one (ps_ret pe_bl)) pss_nil)
      (pss_one (ps_ret (pe_callB (cr_all rfl) (by rfl) hall (by decide +kernel) (pa_cons (pe_lc (own := [("_law_k", 2)]) (g := gName 2) (tt := tYes) (te := tOp rEq (tOp (rIxL K) (tOp (rIxT K) (tVar 0) (tC (.int 1))) (tVar 2)) (tOp (rIxL K) (tOp (rIxT K) (tVar 1) (tC (.int 1))) (tBM K "list" (rIndex K) (tOp (rIxT K) (tVar 1) (tC (.int 0))) (tCons (tOp (rIxL K) (tOp (rIxT K) (tVar 0) (tC (.int 0))) (tVar 2)) tNil)))) rfl scLEq.nd
        (pi_range1 rfl L.range (pa_cons (pe_callB call_len_seq (by rfl) L.len PySem.boot_len (pa_cons (pe_ix ix_tup (pv 0) pe_int (fun _ _ => rfl)) pa_nil)) pa_nil)) (blkOk_by (own := [("_law_k", 2)]) (N := ["_law_one", "_law_two_here", "_law_k"]) (sc := defScope (topS 52)) (by decide +kernel))
        (fun _ _ _ _ _ => pg_name (i := 2) scLEq.nd rfl (Or.inl rfl)) (fun _ _ _ _ _ => pts_nil)
        (fun _ _ _ _ _ => pe_cmpR op_eq (pe_ix ix_list (pe_ix ix_tup (pv 0) pe_int (fun _ _ => rfl)) (pv 2) (fun _ _ => rfl)) (pe_ix ix_list (pe_ix ix_tup (pv 1) pe_int (fun _ _ => rfl)) (pe_bm PySem.F.plainAttrs_list PySem.F.slot_list_index PySem.F.type_list_index mt_index (pe_ix ix_tup (pv 1) pe_int (fun _ _ => rfl)) (pa_cons (pe_ix ix_list (pe_ix ix_tup (pv 0) pe_int (fun _ _ => rfl)) (pv 2) (fun _ _ => rfl)) pa_nil)) (fun _ _ => rfl)) (nomark _))) pa_nil)))), ?_⟩
    have one : ∀ (i : Int) (x : V) (H9 : Hp) (vs : L2.St), atI [V.ref nl, .ref ml] i = some x → Ex H H9 → vs[0]? = some (some (.ref t)) → Ev (tOp (rIxT K) (tVar 0) (tC (.int i))) vs H9 x := fun i x H9 vs hx e9 s0 => ev_op (x := .ref t) (y := .int i) (ev_var s0) ev_c (rv_ixT (K := K) (st_of (e9 _ _ a1)) hx)
    have two : ∀ (i : Int) (x : V) (H9 : Hp) (vs : L2.St), atI [V.ref nl2, .ref ml2] i = some x → Ex H H9 → vs[1]? = some (some (.ref u)) → Ev (tOp (rIxT K) (tVar 1) (tC (.int i))) vs H9 x := fun i x H9 vs hx e9 s0 => ev_op (x := .ref u) (y := .int i) (ev_var s0) ev_c (rv_ixT (K := K) (st_of (e9 _ _ b1)) hx)
    have hb : ∃ b : Bool, (b = false ↔ ∀ z, z ∈ ns ↔ z ∈ ms) ∧ EvT (tB (tOp (rNeD K) (tCB (rSortedS K) (tCons (tOp (rIxT K) (tVar 0) (tC (.int 0))) tNil)) (tCB (rSortedS K) (tCons (tOp (rIxT K) (tVar 1) (tC (.int 0))) tNil)))) [some (.ref t), some (.ref u), none] H b := by
      by_cases hsame : ∀ z, z ∈ ns ↔ z ∈ ms
      · refine ⟨false, ⟨fun _ => hsame, fun _ => rfl⟩, et_B (fun H1 e1 Q' q' => ?_)⟩
        refine one 0 (.ref nl) H1 _ rfl e1 rfl H1 (Ex.refl H1) _ fun H2 e2 => ⟨nl, ns, rfl, sq_of ((e1.trans e2) _ _ a2), by omega, fun ys p hp hs hn => ?_⟩
        have x3 : Ex H1 (upd H2 p (.lst (ys.map V.str))) := e2.trans (Ex.new hn)
        refine two 0 (.ref nl2) _ _ rfl (e1.trans x3) rfl _ (Ex.refl _) _ fun H4 e4 => ⟨nl2, ms, rfl, sq_of (((e1.trans x3).trans e4) _ _ b2), by omega, fun zs p' hp' hs' hn' => ?_⟩
        have hpm : ns.Perm ms := (List.perm_ext_iff_of_nodup ok.nd ok2.nd).mpr hsame
        obtain rfl : ys = zs := sorted_uniq hs hs' hp (hp'.trans hpm.symm)
        have hsh : SeqAt.shaped (.list (ys.map PyData.str)) = true := sh_strs fun z hz => (ok.nm z (hp.subset hz)).2.2
        refine ⟨_, _, dp_strs (sq_of ((e4.trans (Ex.new hn')) _ _ upd_same)), dp_strs (sq_of upd_same), hsh, hsh, ?_⟩
        rw [SeqAt.eqv_refl _ (SeqAt.canLay_of_shaped hsh)]
        exact q' _ ((x3.trans e4).trans (Ex.new hn'))
      · refine ⟨true, ⟨(fun z => nomatch z), fun z => absurd z hsame⟩, et_B (fun H1 e1 Q' q' => ?_)⟩
        refine one 0 (.ref nl) H1 _ rfl e1 rfl H1 (Ex.refl H1) _ fun H2 e2 => ⟨nl, ns, rfl, sq_of ((e1.trans e2) _ _ a2), by omega, fun ys p hp hs hn => ?_⟩
        have x3 : Ex H1 (upd H2 p (.lst (ys.map V.str))) := e2.trans (Ex.new hn)
        refine two 0 (.ref nl2) _ _ rfl (e1.trans x3) rfl _ (Ex.refl _) _ fun H4 e4 => ⟨nl2, ms, rfl, sq_of (((e1.trans x3).trans e4) _ _ b2), by omega, fun zs p' hp' hs' hn' => ?_⟩
        have hne : ys ≠ zs := fun e => hsame fun z => by
          rw [e] at hp
          exact ⟨fun h => hp'.subset (hp.symm.subset h), fun h => hp.subset (hp'.symm.subset h)⟩
        have hsh : SeqAt.shaped (.list (ys.map PyData.str)) = true := sh_strs fun z hz => (ok.nm z (hp.subset hz)).2.2
        have hsh2 : SeqAt.shaped (.list (zs.map PyData.str)) = true := sh_strs fun z hz => (ok2.nm z (hp'.subset hz)).2.2
        refine ⟨_, _, dp_strs (sq_of ((e4.trans (Ex.new hn')) _ _ upd_same)), dp_strs (sq_of upd_same), hsh, hsh2, ?_⟩
        rw [eqv_strs, decide_eq_false hne]
        exact q' _ ((x3.trans e4).trans (Ex.new hn'))
    obtain ⟨b, hbi, hbt⟩ := hb
    refine q_when (b := b) hbt (fun hz H1 e1 => ?_) (fun hz H1 e1 => ?_)
    · refine s_ret ev_c (fun H2 e2 => q false ?_ H2 (e1.trans e2))
      refine ⟨(fun z => nomatch z), fun z => ?_⟩
      have := hbi.mpr z.1
      rw [hz] at this
      cases this
    · have hsame := hbi.mp hz
      let g : Nat → Bool := fun i => decide (mkOf ns ks (ns.getD i "") = mkOf ms qs (ns.getD i ""))
      have hlc : EvL (tLc (iRng1 (tCons (tCB (fun xs H Q => ∃ p ys, xs = [V.ref p] ∧ (SqL K H p ys ∨ SqT K H p ys) ∧ Q (.int ys.length) H) (tCons (tOp (rIxT K) (tVar 0) (tC (.int 0))) tNil)) tNil)) (gName 2) tYes (tOp rEq (tOp (rIxL K) (tOp (rIxT K) (tVar 0) (tC (.int 1))) (tVar 2)) (tOp (rIxL K) (tOp (rIxT K) (tVar 1) (tC (.int 1))) (tBM K "list" (rIndex K) (tOp (rIxT K) (tVar 1) (tC (.int 0))) (tCons (tOp (rIxL K) (tOp (rIxT K) (tVar 0) (tC (.int 0))) (tVar 2)) tNil)))) [2]) [some (.ref t), some (.ref u), none] H1 (((List.range ns.length).map g).map V.bl) := by
        have e := el_lcRm (tn := tCons (tCB (fun xs H Q => ∃ p ys, xs = [V.ref p] ∧ (SqL K H p ys ∨ SqT K H p ys) ∧ Q (.int ys.length) H) (tCons (tOp (rIxT K) (tVar 0) (tC (.int 0))) tNil)) tNil) (te := tOp rEq (tOp (rIxL K) (tOp (rIxT K) (tVar 0) (tC (.int 1))) (tVar 2)) (tOp (rIxL K) (tOp (rIxT K) (tVar 1) (tC (.int 1))) (tBM K "list" (rIndex K) (tOp (rIxT K) (tVar 1) (tC (.int 0))) (tCons (tOp (rIxL K) (tOp (rIxT K) (tVar 0) (tC (.int 0))) (tVar 2)) tNil)))) (σ := [some (.ref t), some (.ref u), none]) (H := H1) (j := 2) (vs := [2]) (n := (ns.length : Int)) (fun i => V.bl (g i)) (ea_cons (ev_is (ev_lenA (K := K) (one 0 (.ref nl) H1 _ rfl e1 rfl) (.inl (sq_of (e1 _ _ a2)))) (by rw [List.length_map])) ea_nil) (by omega) (fun x => rfl) (fun i H2 e2 hi => ?_)
        · rw [List.map_map]
          have e3 : ((ns.length : Int)).toNat = ns.length := by omega
          rw [e3] at e
          exact e
        · have hi' : i < ns.length := by omega
          have hz : ns[i]? = some (ns.getD i "") := by rw [List.getD_eq_getElem?_getD, List.getElem?_eq_getElem hi']; rfl
          have hik : i < ks.length := by rw [ok.len]; exact hi'
          have hk : ks[i]? = some ks[i] := List.getElem?_eq_getElem hik
          generalize ks[i] = m1 at hk
          show Ev _ _ H2 (V.bl (decide (mkOf ns ks (ns.getD i "") = mkOf ms qs (ns.getD i ""))))
          generalize ns.getD i "" = z at hz
          have hzm := (hsame z).mp (List.mem_of_getElem? hz)
          obtain ⟨j, hj⟩ := List.mem_iff_getElem?.mp hzm
          have hjq : j < qs.length := by rw [ok2.len]; exact (List.getElem?_eq_some_iff.mp hj).1
          have hq : qs[j]? = some qs[j] := List.getElem?_eq_getElem hjq
          generalize qs[j] = m2 at hq
          rw [mkOf_at ok.nd hz hk, mkOf_at ok2.nd hj hq]
          have x2 := e1.trans e2
          refine ev_is (ev_op (x := .int m1) (y := .int m2) (ev_ixI (K := K) (one 1 (.ref ml) H2 _ rfl x2 rfl) (ev_var rfl) (x2 _ _ a3) hk) (ev_ixI (K := K) (two 1 (.ref ml2) H2 _ rfl x2 rfl) (ev_index (two 0 (.ref nl2) H2 _ rfl x2 rfl) (ev_ixZ (K := K) (one 0 (.ref nl) H2 _ rfl x2 rfl) (ev_var rfl) (x2 _ _ a2) hz) (x2 _ _ b2) ok2.nd hj) (x2 _ _ b3) hq) (rv_eq rfl)) ?_
          refine congrArg V.bl (decide_eq_decide.mpr ⟨fun y => by injection y, fun y => by rw [y]⟩)
      refine s_ret (v := .bl (((List.range ns.length).map g).all id)) (ev_all hlc) (fun H2 e2 => q _ ?_ H2 (e1.trans e2))
      rw [List.all_map, List.all_eq_true]
      refine ⟨fun h => ⟨hsame, fun z hz => ?_⟩, fun h i hi => ?_⟩
      · obtain ⟨i, hi⟩ := List.mem_iff_getElem?.mp hz
        have hil := (List.getElem?_eq_some_iff.mp hi).1
        have := h i (List.mem_range.mpr hil)
        have ez : ns.getD i "" = z := by rw [List.getD_eq_getElem?_getD, hi]; rfl
        have h2 : decide (mkOf ns ks (ns.getD i "") = mkOf ms qs (ns.getD i "")) = true := this
        rw [ez] at h2
        exact of_decide_eq_true h2
      · have hil := List.mem_range.mp hi
        show decide (mkOf ns ks (ns.getD i "") = mkOf ms qs (ns.getD i "")) = true
        refine decide_eq_true (h.2 _ ?_)
        rw [List.getD_eq_getElem?_getD, List.getElem?_eq_getElem hil]
        exact List.getElem_mem hil
end
end Fs

set_option Elab.async false
set_option linter.all false
set_option maxRecDepth 100000
set_option maxHeartbeats 8000000
/-! the law's parts: two books -/
namespace Fs
open PySem L2 Evl FsE FsC FsR FsA FsD FsU FsK FsT FsQ
section
variable {CK CD C a b c t : Addr} {H H' : Hp} {ns ms rs : List Str} {ks qs rk : List Int} {kvs : List (Key × V)} {o1 o2 : Str} {σ : L2.St} {K : PySem.W.Frag} {D : Ends} {tz : TS} {ta : TE}
theorem ExB.at_ {o : HO} (h : ExB a H H') (ha : BkAt CK H a kvs) (hc : H c = some o) (no : ∀ C dx fs, o ≠ .ins C dx fs) : H' c = some o := by
  obtain ⟨dx, d, h1, h2⟩ := ha
  refine h c o (fun z => ?_) hc
  rw [z, h1] at hc
  exact no _ _ _ (Option.some.inj hc).symm
theorem BT.keepB (h : ExB a H H') (ha : BT CK CD C H a ns ks) (nCK : CK ≠ C) (nDK : CK ≠ CD) (hc : BT CK CD C H c ms qs) (hne : c ≠ a) : BT CK CD C H' c ms qs := by
  obtain ⟨kvs, bk, _⟩ := ha
  obtain ⟨wvs, ⟨dy, d, h1, h2⟩, tb⟩ := hc
  exact ⟨wvs, ⟨dy, d, h c _ hne h1, h.at_ bk h2 (fun _ _ _ z => by cases z)⟩, tb.keepC (h.exC bk nDK) (h.exC bk nCK)⟩
theorem RoAt.keepB (h : ExB a H H') (ha : BT CK CD C H a ns ks) (hr : RoAt H t ms qs) : RoAt H' t ms qs := by
  obtain ⟨kvs, bk, _⟩ := ha
  obtain ⟨nl, ml, h1, h2, h3⟩ := hr
  exact ⟨nl, ml, h.at_ bk h1 (fun _ _ _ z => by cases z), h.at_ bk h2 (fun _ _ _ z => by cases z), h.at_ bk h3 (fun _ _ _ z => by cases z)⟩
theorem BT.tupB {e : Addr} {xs : List V} (h : ExB a H H') (ha : BT CK CD C H a ns ks) (he : H e = some (.tup xs)) : H' e = some (.tup xs) := by
  obtain ⟨kvs, bk, _⟩ := ha
  exact h.at_ bk he (fun _ _ _ z => by cases z)
theorem BT.ne (ha : BT CK CD C H a ns ks) (hc : H c = none) : a ≠ c := by
  obtain ⟨kvs, ⟨dx, d, h1, h2⟩, _⟩ := ha
  exact ne_of_none h1 hc
theorem sp_lis (bt : BT CK CD C H b ns ks) (ro : RoAt H t ns ks) (ok : RoOk ns ks) (hl : ns.length ≤ 20) : SpV (spLIs CK CD C) [.ref b, .ref t] H (.bl true) := fun H1 e1 Q q E => ⟨b, t, ns, ks, rfl, bt.ex e1, ro.ex e1, ok, hl, q⟩
theorem et_lis {i j : Nat} {F : L2.St → XK} (s1 : σ[i]? = some (some (.ref b))) (s2 : σ[j]? = some (some (.ref t))) (bt : BT CK CD C H b ns ks) (ro : RoAt H t ns ks) (ok : RoOk ns ks) (hl : ns.length ≤ 20) :
    EvT (tNot (tB (tCallS (spLIs CK CD C) F (tCons (tVar i) (tCons (tVar j) tNil))))) σ H false := et_is (et_not (et_B (ev_cx (ea_cons (ev_var s1) (ea_cons (ev_var s2) ea_nil)) (sp_lis bt ro ok hl)))) rfl
theorem dp_two {e : Addr} {x y : Str} (h : H e = some (.tup [.str x, .str y])) : ∀ H1, Ex H H1 → Dp K H1 (.ref e) (.tuple [.str x, .str y]) := fun H1 e1 => .tup (st_of (e1 _ _ h)) (.cons (.str _) (.cons (.str _) .nil))
theorem sh_two {x y : Str} (hx : PyData.strOk x = true) (hy : PyData.strOk y = true) : SeqAt.shaped (.tuple [.str x, .str y]) = true := by
  simp [SeqAt.shaped, PyData.canLay0, PyData.canLayAll0, PyData.depth, PyData.depthAll, hx, hy]
theorem Out.str (h : Out ns ks ms qs o1 o2 rs rk) (ok : RoOk ns ks) (ok2 : RoOk ms qs) : PyData.strOk o1 = true ∧ PyData.strOk o2 = true := by
  rcases h with ⟨rfl, h2, _⟩ | ⟨rfl, rfl, _⟩ | ⟨rfl, rfl, _⟩
  · exact ⟨by decide +kernel, (ok.nm o2 ((mem_clR ok2.nd ok2.len ok.len).mp h2.1).1).2.2⟩
  · exact ⟨by decide +kernel, by decide +kernel⟩
  · exact ⟨by decide +kernel, by decide +kernel⟩
theorem Out.len (h : Out ns ks ms qs o1 o2 rs rk) (hn : ns.length ≤ 9) (hm : ms.length ≤ 9) : rs.length ≤ 20 := by
  have j := jn_len (ms := ms) (qs := qs) (ns := ns) (ks := ks)
  rcases h with ⟨_, _, rfl, _⟩ | ⟨_, _, _, _, rfl, _⟩ | ⟨_, _, _, _, rfl, _⟩ <;> omega
theorem et_two {i j : Nat} {e f : Addr} {x y : Str} (s1 : σ[i]? = some (some (.ref e))) (s2 : σ[j]? = some (some (.ref f))) (h1 : H e = some (.tup [.str x, .str y])) (h2 : H f = some (.tup [.str x, .str y])) (hx : PyData.strOk x = true ∧ PyData.strOk y = true) : EvT (tTest (tOp (rNeD K) (tVar i) (tVar j))) σ H false :=
  et_test (ev_neDt (edt_v (ev_var s1) (dp_two h1)) (edt_v (ev_var s2) (dp_two h2)) (sh_two hx.1 hx.2))
theorem q_unp2S {Pv : V → V → Hp → Prop} {i1 i2 : Nat} (h : EvS ta σ H (fun v H' => ∃ t x1 x2, v = .ref t ∧ H' t = some (.tup [x1, x2]) ∧ Pv x1 x2 H')) (k : ∀ x1 x2 H1, Ex H H1 → Pv x1 x2 H1 → tz D ((σ.set i1 (some x1)).set i2 (some x2)) H1) :
    tSeq (tAsg ta (gTup K 2 (gCons (gName i1) (gCons (gName i2) gNil)))) tz D σ H :=
  h H (Ex.refl H) _ fun v H1 e1 ⟨t, x1, x2, hv, h1, hp⟩ => by
    subst hv
    exact ⟨t, _, rfl, st_of h1, rfl, _, _, rfl, _, _, rfl, rfl, k x1 x2 H1 e1 hp⟩
theorem q_unp2R {t : Addr} {x1 x2 : V} {i1 i2 : Nat} (h1 : H t = some (.tup [x1, x2])) (k : tz D ((σ.set i1 (some x1)).set i2 (some x2)) H) : gTup K 2 (gCons (gName i1) (gCons (gName i2) gNil)) (.ref t) σ H (fun σ' H' => tz D σ' H') := ⟨t, _, rfl, st_of h1, rfl, _, _, rfl, _, _, rfl, rfl, k⟩
theorem rv_bkEq {x : Bool} (h1 : BT CK CD C H a ns ks) (h2 : BT CK CD C H c ms qs) (hx : x = true ↔ Agree ns ks ms qs) : RV (rOwnEq CK (spEqB (RBk CK CD C)) E0) (.ref a) (.ref c) H (.bl x) := fun H1 e Q q => by
  have g1 := h1.ex e
  have g2 := h2.ex e
  obtain ⟨kvs, ⟨dx, d1, a1, a2⟩, ta⟩ := id g1
  obtain ⟨wvs, ⟨dy, d2, b1, b2⟩, tb⟩ := id g2
  exact ⟨a, c, dx, dy, _, _, rfl, rfl, a1, b1, a, c, x, rfl, ⟨ns, ks, ms, qs, g1, g2, hx⟩, q⟩
end
section
variable {P : Program} {w : World} {K : PySem.W.Frag} {mg : Str → Option Value} {base : Heap} {C CB CK CN CD t0 : Addr}
/-- book["later"] = _law_definition(0) -/
theorem q_later {σ : L2.St} {H : Hp} {D : Ends} {tz : TS} {x : Addr} {i : Nat} {ns : List Str} {ks : List Int} {F G : L2.St → XK} (s1 : σ[i]? = some (some (.ref x))) (bt : BT CK CD C H x ns ks) (hl : ns.length ≤ 11) (k : ∀ H', ExB x H H' → tz D σ H') :
    tSeq (tAsg (tCallS (spDefn CD C) F (tCons (tC (.int 0)) tNil)) (gSubO CK (spBkSet CK CB) G (tVar i) (tC (.str "later")))) tz D σ H := by
  refine ⟨0, rfl, ⟨by decide, by decide⟩, fun v H1 e1 hv => ?_⟩
  obtain ⟨kvs, bk, tab⟩ := bt.ex e1
  obtain ⟨dy, d5, y1, y2⟩ := id bk
  have pl := putK_len (v := v) "later" tab
  have pl2 : (putK kvs (.inr "later") v).length ≤ 12 := by
    rw [pl]
    split <;> omega
  refine ⟨_, s1, x, dy, _, rfl, y1, x, "later", v, kvs, rfl, bk, tab.ndk, by rw [tab.l1]; omega, by decide +kernel, fun _ _ H6 e6 h6 => ?_, fun _ h12 => absurd h12 (by omega), fun hn => ?_⟩
  · exact k H6 ((ExB.of e1).trans e6)
  · rw [show nameS "later" = true from by decide +kernel] at hn
    cases hn
/-- _law_two -/
def spTwo : Sp := fun vs H Q _ => ∃ (t u : Addr) (ns ms : List Str) (ks qs : List Int), vs = [.ref t, .ref u] ∧ RoAt H t ns ks ∧ RoAt H u ms qs ∧ RoOk ns ks ∧ RoOk ms qs ∧ ns.length ≤ 9 ∧ ms.length ≤ 9 ∧ RetV (.bl true) H Q
abbrev nsTwo : List Str := ["_law_one", "_law_two_here", "_law_first", "_law_second", "_law_told", "_law_rows_here", "_law_error", "_law_both", "_law_changed"]
theorem scTwo : FnScope nsTwo ["_law_one", "_law_two_here"] (defScope (topS 53)) := ⟨rfl, rfl, rfl, by decide +kernel, rfl, by decide +kernel, by decide +kernel⟩
theorem ok_two {f fq fg : Addr} {fd fdq gd : FuncData} {k : Nat} (nCK : CK ≠ C) (nDK : CK ≠ CD) (F : Fun K "_law_two" "_law_two" (topS 53) f fd) (L : LawT K mg)
    (GB : CalX P w K mg base CX0 k "_law_book" (spLBook CK CD C)) (GU : CalX P w K mg base CX0 k "_law_due" spDueB) (GJ : CalX P w K mg base CX0 k "_law_joined" (spJo CK CD C)) (GI : CalX P w K mg base CX0 k "_law_is" (spLIs CK CD C)) (GE : CalX P w K mg base CX0 k "_law_equal" spLEq)
    (GX : CalX P w K mg base CX0 k "_law_extended" (spExtB CK CD C)) (GD : CalX P w K mg base CX0 k "_law_definition" (spDefn CD C)) (MQ : EqM K CK fq) (FQ : FnOk P w K mg base CX0 k fq fdq ["self", "other"] (spEqB (RBk CK CD C))) (BQ : Binds K fdq ["self", "other"] [])
    (SM : StM K CK fg) (FG : FnOk P w K mg base (L2.CX P w) k fg gd ["self", "at", "worth"] (spBkSet CK CB)) (BG : Binds K gd ["self", "at", "worth"] []) : FnOk P w K mg base CX0 (k + 1) f fd ["_law_one", "_law_two_here"] spTwo := by
  refine F.ok scTwo (fun vs H Q E h => ?_) (fun cdv A outer s H vs Q E hr h => ?_)
  · obtain ⟨t, u, ns, ms, ks, qs, rfl, _⟩ := h
    rfl
  · obtain ⟨t, u, ns, ms, ks, qs, rfl, ro, ro2, ok, ok2, ln, lm, q⟩ := h
    refine ⟨_, pss_cons (ps_set (i := 2) scTwo.nd rfl (Or.inl rfl) (pe_cx (E := fun _ => E0) GB hr (Nat.le_refl _) (by rfl) at0 (pa_cons (pv 0) pa_nil)))
      (pss_cons (ps_set (i := 3) scTwo.nd rfl (Or.inl rfl) (pe_cx (E := fun _ => E0) GB hr (Nat.le_refl _) (by rfl) at0 (pa_cons (pv 1) pa_nil)))
      (pss_cons (ps_asg (pe_cx (E := fun _ => E0) GU hr (Nat.le_refl _) (by rfl) at0 (pa_cons (pv 0) (pa_cons (pv 1) pa_nil))) (pg_tup rfl (pgs_cons (pg_name (i := 4) scTwo.nd rfl (.inl rfl)) (pgs_cons (pg_name (i := 5) scTwo.nd rfl (.inl rfl)) pgs_nil))))
      (pss_cons (ps_asg (pe_cx (E := fun _ => E0) GJ hr (Nat.le_refl _) (by rfl) at0 (pa_cons (pv 2) (pa_cons (pv 3) pa_nil))) (pg_tup rfl (pgs_cons (pg_name (i := 6) scTwo.nd rfl (.inl rfl)) (pgs_cons (pg_name (i := 7) scTwo.nd rfl (.inl rfl)) pgs_nil))))
      (pss_cons (ps_if (PW.pt (pw_or (pt_cmpR (op_neD hr.units) (pv 6) (pv 4) (nomark _)) (pw_or (pt_not (pt_val (pe_cx (E := fun _ => E0) GI hr (Nat.le_refl _) (by rfl) at0 (pa_cons (pv 2) (pa_cons (pv 0) pa_nil))))) (pw_or (pt_not (pt_val (pe_cx (E := fun _ => E0) GI hr (Nat.le_refl _) (by rfl) at0 (pa_cons (pv 3) (pa_cons (pv 1) pa_nil))))) (pw_or1 (pt_not (pt_val (pe_cx (E := fun _ => E0) GI hr (Nat.le_refl _) (by rfl) at0 (pa_cons (pv 7) (pa_cons (pv 5) pa_nil)))))))))) (pss_one (ps_ret pe_bl)) pss_nil)
      (pss_cons (ps_if (pt_cmpR op_ne (pe_cmpR (op_ownEq (E := E0) MQ FQ hr BQ (fun σ => at0 (E := fun _ => E0) σ)) (pv 2) (pv 3) (nomark _)) (pe_cx (E := fun _ => E0) GE hr (Nat.le_refl _) (by rfl) at0 (pa_cons (pv 0) (pa_cons (pv 1) pa_nil))) (nomark _)) (pss_one (ps_ret pe_bl)) pss_nil)
      (pss_cons (ps_asg (pe_cx (E := fun _ => E0) GX hr (Nat.le_refl _) (by rfl) at0 (pa_cons (pv 2) (pa_cons (pv 3) pa_nil))) (pg_tup rfl (pgs_cons (pg_name (i := 6) scTwo.nd rfl (.inl rfl)) (pgs_cons (pg_name (i := 8) scTwo.nd rfl (.inl rfl)) pgs_nil))))
      (pss_cons (ps_if (PW.pt (pw_or (pt_cmpR (op_neD hr.units) (pv 6) (pv 4) (nomark _)) (pw_or (pt_not (pt_val (pe_cx (E := fun _ => E0) GI hr (Nat.le_refl _) (by rfl) at0 (pa_cons (pv 2) (pa_cons (pv 5) pa_nil))))) (pw_or (pt_not (pt_val (pe_cx (E := fun _ => E0) GI hr (Nat.le_refl _) (by rfl) at0 (pa_cons (pv 8) (pa_cons (pv 5) pa_nil))))) (pw_or1 (pt_not (pt_val (pe_cx (E := fun _ => E0) GI hr (Nat.le_refl _) (by rfl) at0 (pa_cons (pv 3) (pa_cons (pv 1) pa_nil)))))))))) (pss_one (ps_ret pe_bl)) pss_nil)
      (pss_cons (ps_if (PW.pt (pw_and (pt_cmpR op_eq (pe_ix ix_tup (pv 4) pe_int (fun _ _ => rfl)) pe_str (nomark _)) (pw_and1 (pt_cmpR op_lt (pe_callB call_len_seq (by rfl) L.len PySem.boot_len (pa_cons (pe_ix ix_tup (pv 5) pe_int (fun _ _ => rfl)) pa_nil)) pe_int (nomark _)))))
          (pss_cons (ps_asg (pe_cx (E := fun _ => E0) GD hr (Nat.le_refl _) (by rfl) at0 (pa_cons pe_int pa_nil)) (pg_subO (E := fun _ => E0) (pv 7) pe_str SM FG hr BG (fun σ => passesAt_of passL σ)))
          (pss_cons (ps_if (PW.pt (pw_or (pt_not (pt_val (pe_cx (E := fun _ => E0) GI hr (Nat.le_refl _) (by rfl) at0 (pa_cons (pv 2) (pa_cons (pv 5) pa_nil))))) (pw_or1 (pt_not (pt_val (pe_cx (E := fun _ => E0) GI hr (Nat.le_refl _) (by rfl) at0 (pa_cons (pv 3) (pa_cons (pv 1) pa_nil)))))))) (pss_one (ps_ret pe_bl)) pss_nil)
          (pss_cons (ps_asg (pe_cx (E := fun _ => E0) GD hr (Nat.le_refl _) (by rfl) at0 (pa_cons pe_int pa_nil)) (pg_subO (E := fun _ => E0) (pv 3) pe_str SM FG hr BG (fun σ => passesAt_of passL σ)))
          (pss_one (ps_ret (pe_cx (E := fun _ => E0) GI hr (Nat.le_refl _) (by rfl) at0 (pa_cons (pv 2) (pa_cons (pv 5) pa_nil)))))))) pss_nil)
      (pss_one (ps_ret pe_bl)))))))))), ?_⟩
    refine q_asgS (Pv := fun v H' => ∃ a, v = .ref a ∧ H a = none ∧ BT CK CD C H' a ns ks) (fun H1 e1 Q1 k1 => ⟨_, rfl, t, ns, ks, rfl, ro.ex e1, ok, by omega, fun b H2 hb e2 h2 => k1 _ H2 e2 ⟨b, rfl, fresh_back e1 hb, h2⟩⟩) (fun v H1 e1 ⟨a, hv, ha, bta⟩ => ?_)
    subst hv
    refine q_asgS (Pv := fun v H' => ∃ c, v = .ref c ∧ H1 c = none ∧ BT CK CD C H' c ms qs) (fun H2 e2 Q1 k1 => ⟨_, rfl, u, ms, qs, rfl, ro2.ex (e1.trans e2), ok2, by omega, fun b H3 hb e3 h3 => k1 _ H3 e3 ⟨b, rfl, fresh_back e2 hb, h3⟩⟩) (fun v H2 e2 ⟨c, hv, hc, btc⟩ => ?_)
    subst hv
    have nac : a ≠ c := bta.ne hc
    refine q_unp2S (K := K) (Pv := fun x1 x2 H' => ∃ o1 o2 rs rk e x, x1 = .ref e ∧ x2 = .ref x ∧ Out ns ks ms qs o1 o2 rs rk ∧ RoOk rs rk ∧ H' e = some (.tup [.str o1, .str o2]) ∧ RoAt H' x rs rk)
      (fun H3 e3 Q3 k3 => ⟨_, rfl, _, rfl, t, u, ns, ms, ks, qs, rfl, ro.ex ((e1.trans e2).trans e3), ro2.ex ((e1.trans e2).trans e3), ok, ok2, by omega, by omega, fun o1 o2 rs rk out okr r e x H4 e4 g1 g2 g3 => k3 _ H4 e4 ⟨r, _, _, rfl, g1, o1, o2, rs, rk, e, x, rfl, rfl, out, okr, g2, g3⟩⟩) (fun x1 x2 H3 e3 ⟨o1, o2, rs, rk, e, x, h1, h2, out, okr, g2, g3⟩ => ?_)
    subst h1 h2
    have bta3 := bta.ex (e2.trans e3)
    have btc3 := btc.ex e3
    refine q_unp2S (K := K) (Pv := fun x1 x2 H' => ∃ e' y, x1 = .ref e' ∧ x2 = .ref y ∧ H' e' = some (.tup [.str o1, .str o2]) ∧ BT CK CD C H' y rs rk ∧ (o1 = "" → H3 y = none))
      (fun H4 e4 Q4 k4 => ⟨_, rfl, _, rfl, a, c, ns, ms, ks, qs, rfl, bta3.ex e4, btc3.ex e4, by omega, by omega, fun p1 p2 ss sk out2 r e' y H5 e5 f1 f2 f3 f4 => by
        obtain ⟨rfl, rfl, rfl, rfl⟩ := out.uniq out2
        exact k4 _ H5 e5 ⟨r, _, _, rfl, f1, e', y, rfl, rfl, f2, f3, fun z => fresh_back e4 (f4 z)⟩⟩) (fun x1 x2 H4 e4 ⟨e', y, h1, h2, f2, f3, f4⟩ => ?_)
    subst h1 h2
    have so := out.str ok ok2
    have lr := out.len ln lm
    have x4 := ((e1.trans e2).trans e3).trans e4
    refine q_when (b := false) (et_is (et_or (a := false) (b := false) (et_two rfl rfl f2 (e4 _ _ g2) so) (fun _ => et_is (et_or (a := false) (b := false) (et_lis rfl rfl (bta3.ex e4) (ro.ex x4) ok (by omega)) (fun _ => et_is (et_or (a := false) (b := false) (et_lis rfl rfl (btc3.ex e4) (ro2.ex x4) ok2 (by omega)) (fun _ => et_lis rfl rfl f3 (g3.ex e4) okr lr)) rfl)) rfl)) rfl) (fun z => nomatch z) (fun _ H5 e5 => ?_)
    have x5 := x4.trans e5
    have e35 := e4.trans e5
    obtain ⟨bb, hbb⟩ : ∃ bb : Bool, bb = true ↔ Agree ns ks ms qs := ⟨@decide _ (Classical.propDecidable _), @decide_eq_true_iff _ (Classical.propDecidable _)⟩
    refine q_when (b := false) (et_is (et_test (ev_op (x := .bl bb) (y := .bl bb) (ev_op (ev_var rfl) (ev_var rfl) (rv_bkEq (bta3.ex e35) (btc3.ex e35) hbb)) (ev_cx (ea_cons (ev_var rfl) (ea_cons (ev_var rfl) ea_nil)) (fun H6 e6 Q6 q6 E => ⟨t, u, ns, ms, ks, qs, rfl, ro.ex (x5.trans e6), ro2.ex (x5.trans e6), ok, ok2, by omega, by omega, fun b hb => by
        have : b = bb := Bool.eq_iff_iff.mpr (hb.trans hbb.symm)
        rw [this]
        exact q6⟩)) (rv_ne rfl))) (by rw [decide_eq_true rfl]; rfl)) (fun z => nomatch z) (fun _ H6 e6 => ?_)
    have e36 := e35.trans e6
    have x6 := x5.trans e6
    have bta6 := bta3.ex e36
    have btc6 := btc3.ex e36
    refine ⟨_, rfl, _, rfl, a, c, ns, ms, ks, qs, rfl, bta6, btc6, by omega, by omega, fun p1 p2 ss sk out2 r ee H7 e7 k1 k2 k3 => ?_⟩
    obtain ⟨rfl, rfl, rfl, rfl⟩ := out.uniq out2
    refine q_unp2R (K := K) k1 ?_
    have btc7 := BT.keepB e7 bta6 nCK nDK btc6 nac.symm
    have ro7 := RoAt.keepB e7 bta6 (ro.ex x6)
    have ro27 := RoAt.keepB e7 bta6 (ro2.ex x6)
    have g37 := RoAt.keepB e7 bta6 (g3.ex e36)
    have g27 := BT.tupB e7 bta6 (e36 _ _ g2)
    have xH7 : Ex H H7 := ExB.ex ha x6 e7
    refine q_when (b := false) (et_is (et_or (a := false) (b := false) (et_two rfl rfl k2 g27 so) (fun _ => et_is (et_or (a := false) (b := false) (et_lis rfl rfl k3 g37 okr lr) (fun _ => et_is (et_or (a := false) (b := false) (et_lis rfl rfl k3 g37 okr lr) (fun _ => et_lis rfl rfl btc7 ro27 ok2 (by omega))) rfl)) rfl)) rfl) (fun z => nomatch z) (fun _ H8 e8 => ?_)
    have fin : ∀ (σ9 : L2.St) (H9 : Hp), Ex H8 H9 → tRet (tC (.bl true)) { nx := fun _ H' => Q .non H', rt := Q } σ9 H9 := fun σ9 H9 e9 => s_ret ev_c (fun H10 e10 => q H10 (((xH7.trans e8).trans e9).trans e10))
    obtain ⟨nl3, ml3, r1, r2, r3⟩ := id (g37.ex e8)
    refine q_when (b := decide (V.str o1 = V.str "") && decide ((rs.length : Int) < 12)) (et_and (et_test (ev_op (x := .str o1) (ev_op (x := .ref e) (y := .int 0) (ev_var rfl) ev_c (rv_ixT (K := K) (st_of (e8 _ _ g27)) rfl)) ev_c (rv_eq rfl))) (fun _ => et_test (ev_op (x := .int (rs.length : Int)) (ev_is (ev_lenA (K := K) (ev_op (x := .ref x) (y := .int 0) (ev_var rfl) ev_c (rv_ixT (K := K) (st_of r1) rfl)) (.inl (sq_of r2))) (by rw [List.length_map])) ev_c rv_I0))) (fun hb H9 e9 => ?_) (fun hb H9 e9 => fin _ H9 e9)
    rw [Bool.and_eq_true, decide_eq_true_eq, decide_eq_true_eq] at hb
    have ho : o1 = "" := by
      have := hb.1
      injection this
    have hl12 : rs.length ≤ 11 := by
      have := hb.2
      omega
    have hy3 := f4 ho
    have nay : a ≠ y := bta3.ne hy3
    have ncy : c ≠ y := btc3.ne hy3
    have bty6 := f3.ex (e5.trans e6)
    have bty7 := BT.keepB e7 bta6 nCK nDK bty6 nay.symm
    have e79 := e8.trans e9
    refine q_later (σ := _) (x := y) rfl (bty7.ex e79) hl12 (fun H10 e10 => ?_)
    have bty9 := bty7.ex e79
    have bta10 := BT.keepB e10 bty9 nCK nDK (k3.ex e79) nay
    have btc10 := BT.keepB e10 bty9 nCK nDK (btc7.ex e79) ncy
    have ro210 := RoAt.keepB e10 bty9 (ro27.ex e79)
    have g310 := RoAt.keepB e10 bty9 (g37.ex e79)
    have hyH : H y = none := fresh_back ((e1.trans e2).trans e3) hy3
    have xH10 : Ex H H10 := ExB.ex hyH (xH7.trans e79) e10
    refine q_when (b := false) (et_is (et_or (a := false) (b := false) (et_lis rfl rfl bta10 g310 okr lr) (fun _ => et_lis rfl rfl btc10 ro210 ok2 (by omega))) rfl) (fun z => nomatch z) (fun _ H11 e11 => ?_)
    refine q_later (σ := _) (x := c) rfl (btc10.ex e11) (by omega) (fun H12 e12 => ?_)
    have btc11 := btc10.ex e11
    have bta12 := BT.keepB e12 btc11 nCK nDK (bta10.ex e11) nac
    have g312 := RoAt.keepB e12 btc11 (g310.ex e11)
    have hcH : H c = none := fresh_back e1 hc
    have xH12 : Ex H H12 := ExB.ex hcH (xH10.trans e11) e12
    exact s_ret (ev_cx (ea_cons (ev_var rfl) (ea_cons (ev_var rfl) ea_nil)) (sp_lis bta12 g312 okr lr)) (fun H13 e13 => q H13 (xH12.trans e13))
end
end Fs

set_option Elab.async false
set_option linter.all false
set_option maxRecDepth 100000
set_option maxHeartbeats 8000000
/-! the law -/
namespace Fs
open PySem L2 Evl FsE FsC FsR FsA FsD FsU FsK FsT FsQ
/-! stop -/
section
variable {P : Program} {w : World} {K : PySem.W.Frag} {mg : Str → Option Value} {base : Heap} {C CB CK CN CD t0 : Addr} {k : Nat}
theorem scStop : FnScope [] [] (defScope (inClass (topS 36) 1)) := ⟨rfl, rfl, rfl, by decide +kernel, rfl, by decide +kernel, by decide +kernel⟩
theorem ok_stop {f : Addr} {fd : FuncData} (F : Fun K "stop" "Process.stop" (inClass (topS 36) 1) f fd) (M : MakT P w K mg base C CB k) : FnOk P w K mg base (L2.CX P w) (k + 1 + 1) f fd [] (spStop C CB) := by
  refine F.okX scStop (fun vs H Q E h => ?_) (fun cdv A outer s H vs Q E hr h => ?_)
  · obtain ⟨rfl, _⟩ := h
    rfl
  · obtain ⟨rfl, m⟩ := h
    refine ⟨_, pss_one (ps_ret (pe_mx M.make hr (Nat.le_refl _) (by rfl) (passes_call (W := fun cls d _ H => E cls d H) (takes_of rfl rfl rfl rfl) (fun _ _ _ _ h => h)) (pa_cons pe_str (pa_cons (pe_tup pa_nil) pa_nil)))), ?_⟩
    exact ret_make (p := .choice .nil) ev_c (EvP.of (ps := []) (eu_tup ea_nil (by decide)) (by decide) rfl) m
end
/-! a list of new things, each with lists of its own -/
section
variable {σ : L2.St} {H : Hp} {ta t1 t2 te tl : TE} {tA : TA} {tz : TS} {D : Ends} {K : PySem.W.Frag} {R : Addr → Hp → V → Prop}
def CwD (R : Addr → Hp → V → Prop) (H1 : Hp) (Dl : Addr) (i : Nat) (H' : Hp) : Prop := H1 Dl = none ∧ Ex H1 H' ∧ ∃ ys : List V, H' Dl = some (.lst ys) ∧ ys.length = i ∧ ∀ y ∈ ys, R Dl H' y
theorem q_asgD {i j : Nat} {vs : List Nat} {n : Int} (kx : ∀ Dl H H' y, Ex H H' → R Dl H y → R Dl H' y) (ku : ∀ Dl H o xs y, H Dl = some (.lst xs) → R Dl H y → R Dl (upd H Dl o) y) (h : EvA tA σ H [.int n]) (hn : 0 ≤ n ∧ n ≤ 40000) (hw : ∀ x, wipe ((wipe σ vs).set j (some x)) vs = wipe σ vs)
    (he : ∀ (i : Nat) Dl acc H1, Ex H H1 → H1 Dl = some (.lst acc) → (i : Int) < n → EvS te ((wipe σ vs).set j (some (.int (i : Int)))) H1 (fun v H2 => R Dl H2 v))
    (k : ∀ p H1 ys, H p = none → Ex H H1 → H1 p = some (.lst ys) → ys.length = n.toNat → (∀ y ∈ ys, R p H1 y) → tz D (σ.set i (some (.ref p))) H1) :
    tSeq (tAsg (tLc (iRng1 tA) (gName j) tYes te vs) (gName i)) tz D σ H := h H (Ex.refl H) _ fun H1 e1 => ⟨n, rfl, by omega, by omega, fun Dl hD =>
  lc_range (lo := 0) (n := n.toNat) (CwD R H1 Dl) ⟨hD, Ex.new hD, [], upd_same, rfl, fun y hy => nomatch hy⟩ (fun i H' hi p => by
    have e0 : (0 : Int) + (i : Int) = (i : Int) := Int.zero_add _
    show wipe ((wipe σ vs).set j (some (.int ((0 : Int) + (i : Int))))) vs = wipe σ vs ∧ te ((wipe σ vs).set j (some (.int ((0 : Int) + (i : Int))))) H' fun y H4 => ∃ acc, H4 Dl = some (.lst acc) ∧ acc.length < sizeLine ∧ CwD R H1 Dl (i + 1) (upd H4 Dl (.lst (acc ++ [y])))
    rw [e0]
    obtain ⟨p1, p2, ys, p3, p4, p5⟩ := p
    refine ⟨hw _, he i Dl ys H' (e1.trans p2) p3 (by omega) H' (Ex.refl H') _ fun y H4 e4 hy => ?_⟩
    have h4 := e4 _ _ p3
    refine ⟨ys, h4, sz_lt (by omega), p1, Ex.mut (p2.trans e4) p1, ys ++ [y], upd_same, by rw [List.length_append, p4]; rfl, fun z hz => ?_⟩
    rcases List.mem_append.mp hz with hz | hz
    · exact ku _ _ _ _ _ h4 (kx _ _ _ _ e4 (p5 z hz))
    · rw [List.mem_singleton.mp hz]
      exact ku _ _ _ _ _ h4 hy) (fun H' p => by
    obtain ⟨p1, p2, ys, p3, p4, p5⟩ := p
    exact k Dl H' ys (fresh_back e1 p1) (e1.trans p2) p3 p4 p5)⟩
end
/-- names and marks at v, apart from Dl -/
def RoD (Dl : Addr) (H : Hp) (v : V) : Prop := ∃ t nl ml ns ks, v = .ref t ∧ nl ≠ Dl ∧ ml ≠ Dl ∧ H t = some (.tup [.ref nl, .ref ml]) ∧ H nl = some (.lst (ns.map V.str)) ∧ H ml = some (.lst (ks.map V.int)) ∧ RoOk ns ks ∧ ns.length ≤ 9
theorem RoD.ex (Dl : Addr) (H H' : Hp) (y : V) (e : Ex H H') (h : RoD Dl H y) : RoD Dl H' y := by
  obtain ⟨t, nl, ml, ns, ks, h0, h1, h2, h3, h4, h5, h6, h7⟩ := h
  exact ⟨t, nl, ml, ns, ks, h0, h1, h2, e _ _ h3, e _ _ h4, e _ _ h5, h6, h7⟩
theorem RoD.updD (Dl : Addr) (H : Hp) (o : HO) (xs : List V) (y : V) (hd : H Dl = some (.lst xs)) (h : RoD Dl H y) : RoD Dl (upd H Dl o) y := by
  obtain ⟨t, nl, ml, ns, ks, h0, h1, h2, h3, h4, h5, h6, h7⟩ := h
  exact ⟨t, nl, ml, ns, ks, h0, h1, h2, by rw [upd_ne (fun z => by rw [z, hd] at h3; cases h3)]; exact h3, by rw [upd_ne h1]; exact h4, by rw [upd_ne h2]; exact h5, h6, h7⟩
theorem RoD.ro {Dl : Addr} {H : Hp} {y : V} (h : RoD Dl H y) : ∃ t ns ks, y = .ref t ∧ RoAt H t ns ks ∧ RoOk ns ks ∧ ns.length ≤ 9 := by
  obtain ⟨t, nl, ml, ns, ks, h0, h1, h2, h3, h4, h5, h6, h7⟩ := h
  exact ⟨t, ns, ks, h0, ⟨nl, ml, h3, h4, h5⟩, h6, h7⟩
/-! a table with itself, and turned -/
theorem jn_sub : ∀ {ms : List Str} {qs : List Int} {ns : List Str} {ks : List Int}, (∀ z ∈ ms, z ∈ ns) → jn ns ks ms qs = (ns, ks)
  | [], qs, ns, ks, _ => by rw [jn]
  | z :: ms, [], ns, ks, _ => by rw [jn]
  | z :: ms, q :: qs, ns, ks, h => by rw [jn_in (h z (List.mem_cons_self ..)), jn_sub fun y hy => h y (List.mem_cons_of_mem _ hy)]
theorem Out.self {ns : List Str} {ks : List Int} (ok : RoOk ns ks) (hl : ns.length ≤ 12) : Out ns ks ns ks "" "" ns ks := by
  have j : jn ns ks ns ks = (ns, ks) := jn_sub fun z hz => hz
  refine .inr (.inr ⟨rfl, rfl, List.eq_nil_iff_forall_not_mem.mpr fun z hz => ((mem_clR ok.nd ok.len ok.len).mp hz).2.2 rfl, by rw [j]; exact hl, by rw [j], by rw [j]⟩)
theorem RoOk.rev {ns : List Str} {ks : List Int} (ok : RoOk ns ks) : RoOk ns.reverse ks.reverse :=
  ⟨List.pairwise_reverse.mpr (ok.nd.imp fun h => Ne.symm h), fun z hz => ok.nm z (List.mem_reverse.mp hz), by rw [List.length_reverse, List.length_reverse, ok.len], fun k hk => ok.mks k (List.mem_reverse.mp hk)⟩
theorem agree_rev {ns : List Str} {ks : List Int} (ok : RoOk ns ks) : Agree ns ks ns.reverse ks.reverse := by
  refine ⟨fun z => List.mem_reverse.symm, fun z hz => ?_⟩
  obtain ⟨j, hj⟩ := List.mem_iff_getElem?.mp hz
  have hl := (List.getElem?_eq_some_iff.mp hj).1
  have hkl : j < ks.length := by rw [ok.len]; exact hl
  have hk : ks[j]? = some ks[j] := List.getElem?_eq_getElem hkl
  rw [mkOf_at ok.nd hj hk]
  refine (mkOf_at (j := ns.length - 1 - j) ok.rev.nd ?_ ?_).symm
  · rw [List.getElem?_reverse (by omega), show ns.length - 1 - (ns.length - 1 - j) = j from by omega]
    exact hj
  · rw [List.getElem?_reverse (by rw [ok.len]; omega), ok.len, show ns.length - 1 - (ns.length - 1 - j) = j from by omega]
    exact hk
section
variable {σ : L2.St} {H : Hp} {ta tb t1 t2 te tl : TE} {tA : TA} {tz : TS} {D : Ends} {K : PySem.W.Frag} {CK CD C CB : Addr} {E : XK} {F : L2.St → XK} {l : Addr}
/-- Definition(l, Process.stop()) -/
theorem es_defS (h1 : EvS t1 σ H (fun v H' => ∃ l, v = .ref l ∧ NmsAt H' l ["x", "y"])) :
    EvS (tMake CD (spDfInit CD) [] E (tCons t1 (tCons (tStat C (spStop C CB) F (tC (.ref C)) tNil) tNil))) σ H (fun v H' => ∃ a b, v = .ref a ∧ DfAt CD H' a ["x", "y"] b ∧ PrAt C H' b (.choice .nil)) := fun H1 e1 Q q => by
  refine s_mk2 (h1 H1 e1 _ fun v H2 e2 ⟨l, hv, hl⟩ => ?_)
  subst hv
  refine ⟨rfl, rfl, fun _ c H4 hc e4 h4 => ?_, fun f hf => by cases hf⟩
  intro x dx hx hdx hne
  refine ⟨x, dx, l, c, ["x", "y"], H4, rfl, upd_same, hx, own_ex hx hdx, hl.ex e4, by show 2 ≤ 4; decide, by decide +kernel, by decide +kernel, fun H5 e5 h5 => ⟨rfl, ?_⟩⟩
  exact q _ H5 ((e2.trans e4).trans e5) ⟨x, c, rfl, h5, h4.ex e5⟩
theorem el_rev {a : Addr} {xs : List V} (ha : Ev ta σ H (.ref a)) (h1 : H a = some (.lst xs)) : EvL (tRevL K ta) σ H xs.reverse := fun H1 e Q q =>
  ha H1 e _ fun H2 e2 => ⟨a, xs, rfl, sq_of ((e.trans e2) _ _ h1), fun u hu => q u _ (fresh_back e2 hu) (e2.trans (Ex.new hu)) upd_same⟩
theorem es_tupLL {xs ys : List V} (h1 : EvL ta σ H xs) (h2 : EvL tb σ H ys) : EvS (tTup (tCons ta (tCons tb tNil))) σ H (fun v H' => ∃ t p q, v = .ref t ∧ H' t = some (.tup [.ref p, .ref q]) ∧ H' p = some (.lst xs) ∧ H' q = some (.lst ys)) := fun H0 e Q k =>
  h1 H0 e _ fun p H1 _ e1 g1 => h2 H1 (e.trans e1) _ fun q H2 _ e2 g2 => ⟨by show 2 ≤ sizeLine; decide, fun t ht => k (.ref t) _ ((e1.trans e2).trans (Ex.new ht)) ⟨t, p, q, rfl, upd_same, (e2.trans (Ex.new ht)) _ _ g1, (Ex.new ht) _ _ g2⟩⟩
end
section
variable {P : Program} {w : World} {K : PySem.W.Frag} {mg : Str → Option Value} {base : Heap} {C CB CK CN CD t0 : Addr}
abbrev nsLawB : List Str := ["_law_script", "_law_rows_here", "_law_k", "_law_one", "_law_two_here", "_law_passed", "_law_copied", "_law_book_here", "_law_error", "_law_same", "_law_turned"]
theorem scLawB : FnScope nsLawB ["_law_script"] (defScope (topS 54)) := ⟨rfl, rfl, rfl, by decide +kernel, rfl, by decide +kernel, by decide +kernel⟩
abbrev tRows (K : PySem.W.Frag) : TE := tCallS spRowsB (fun _ => E0) (tCons (tCallS spRow (fun _ => E0) (tCons (tCallS (spCellAt K) (fun _ => E0) (tCons (tVar 0) (tCons (tVar 2) tNil))) (tCons (tC (.int 10)) tNil))) tNil)
theorem ok_law {f fq fn : Addr} {fd fdq gd : FuncData} {k : Nat} (hk : 4 ≤ k) (nCK : CK ≠ C) (nDK : CK ≠ CD) (F : Fun K "law" "law" (topS 54) f fd) (L : LawT K mg) (TP : TerT K mg C CB) (TD : DfT K mg CD)
    (GC : CalX P w K mg base CX0 1 "_law_cell_at" (spCellAt K)) (GR : CalX P w K mg base CX0 2 "_law_row" spRow) (GRo : CalX P w K mg base CX0 1 "_law_rows" spRowsB)
    (GT : CalX P w K mg base CX0 k "_law_two" spTwo) (MD : MakX P w K mg base CX0 3 "Definition" CD (spDfInit CD)) (SS : StaX P w K mg base (L2.CX P w) 5 C "stop" (spStop C CB))
    (NM : NeM K CD fn) {kn : Nat} (hkn : kn + 1 ≤ k) (FN : FnOk P w K mg base CX0 kn fn gd ["self", "other"] (spEqB (RDf CD C 1))) (BN : Binds K gd ["self", "other"] [])
    (GB : CalX P w K mg base CX0 k "_law_book" (spLBook CK CD C)) (GX : CalX P w K mg base CX0 k "_law_extended" (spExtB CK CD C)) (GI : CalX P w K mg base CX0 k "_law_is" (spLIs CK CD C))
    (MQ : EqM K CK fq) (FQ : FnOk P w K mg base CX0 k fq fdq ["self", "other"] (spEqB (RBk CK CD C))) (BQ : Binds K fdq ["self", "other"] []) (hk5 : 5 ≤ k) : FnOk P w K mg base CX0 (k + 1) f fd ["_law_script"] (spLaw K) := by
  refine F.ok scLawB (fun vs H Q E h => ?_) (fun cdv A outer s H vs Q E hr h => ?_)
  · obtain ⟨a, ns, rfl, _⟩ := h
    rfl
  · obtain ⟨a, sn, rfl, hS, q⟩ := h
    refine ⟨_, pss_cons (ps_setLc (i := 1) (own := [("_law_k", 2)]) (g := gName 2) (tt := tYes) (te := tRows K) rfl scLawB.nd rfl rfl (sw_true rfl rfl rfl (by decide +kernel)) (pi_range1 rfl L.range (pa_cons pe_int pa_nil)) (blkOk_by (own := [("_law_k", 2)]) (N := nsLawB) (sc := defScope (topS 54)) (by decide +kernel))
          (fun _ _ _ _ _ => pg_name (i := 2) scLawB.nd rfl (Or.inl rfl)) (fun _ _ _ _ _ => pts_nil)
          (fun _ _ _ _ _ => pe_cx (E := fun _ => E0) GRo hr (by omega) (by rfl) at0 (pa_cons (pe_cx (E := fun _ => E0) GR hr (by omega) (by rfl) at0 (pa_cons (pe_cx (E := fun _ => E0) GC hr (by omega) (by rfl) at0 (pa_cons (pv 0) (pa_cons (pv 2) pa_nil))) (pa_cons pe_int pa_nil))) pa_nil)))
      (pss_cons (ps_for PassesOwn.never rfl (pi_list (pv 1)) (pg_name (i := 3) scLawB.nd rfl (Or.inl rfl))
        (pss_one (ps_for PassesOwn.never rfl (pi_list (pv 1)) (pg_name (i := 4) scLawB.nd rfl (Or.inl rfl))
          (pss_one (ps_if (pt_not (pt_val (pe_cx (E := fun _ => E0) GT hr (Nat.le_refl _) (by rfl) at0 (pa_cons (pv 3) (pa_cons (pv 4) pa_nil))))) (pss_one (ps_ret pe_bl)) pss_nil)))))
      (pss_cons (ps_set (i := 5) scLawB.nd rfl (Or.inl rfl) (pe_lst (pa_cons pe_str (pa_cons pe_str pa_nil))))
      (pss_cons (ps_set (i := 6) scLawB.nd rfl (Or.inl rfl) (pe_mx (E := E0) MD hr (by omega) (by rfl) pass0 (pa_cons (pv 5) (pa_cons (pe_sx0 (E := fun _ => E0) SS hr (by omega) (pe_glob (v := .ref C) (by rfl) TP.mgC rfl) (fun σ => passesAt_of passL σ)) pa_nil))))
      (pss_cons (ps_expr (pe_bm PySem.F.plainAttrs_list PySem.F.slot_list_append PySem.F.type_list_append mt_append (pv 5) (pa_cons pe_str pa_nil)))
      (pss_cons (ps_if (PW.pt (pw_or (pt_cmpR (op_neD hr.units) (pe_fld (pv 6) rfl) (pe_tup (pa_cons pe_str (pa_cons pe_str pa_nil))) (nomark _))
            (pw_or1 (pt_cmpR (op_neB (E := E0) NM FN (hr.mono hkn) BN pass0) (pv 6) (pe_mx (E := E0) MD hr (by omega) (by rfl) pass0 (pa_cons (pe_tup (pa_cons pe_str (pa_cons pe_str pa_nil))) (pa_cons (pe_sx0 (E := fun _ => E0) SS hr (by omega) (pe_glob (v := .ref C) (by rfl) TP.mgC rfl) (fun σ => passesAt_of passL σ)) pa_nil))) (nomark _))))) (pss_one (ps_ret pe_bl)) pss_nil)
      (pss_cons (ps_set (i := 7) scLawB.nd rfl (Or.inl rfl) (pe_cx (E := fun _ => E0) GB hr (Nat.le_refl _) (by rfl) at0 (pa_cons (pe_ix ix_list (pv 1) pe_int (fun _ _ => rfl)) pa_nil)))
      (pss_cons (ps_asg (pe_cx (E := fun _ => E0) GX hr (Nat.le_refl _) (by rfl) at0 (pa_cons (pv 7) (pa_cons (pv 7) pa_nil))) (pg_tup rfl (pgs_cons (pg_name (i := 8) scLawB.nd rfl (.inl rfl)) (pgs_cons (pg_name (i := 9) scLawB.nd rfl (.inl rfl)) pgs_nil))))
      (pss_cons (ps_set (i := 10) scLawB.nd rfl (Or.inl rfl) (pe_tup (pa_cons (pe_revL (pe_ix ix_tup (pe_ix ix_list (pv 1) pe_int (fun _ _ => rfl)) pe_int (fun _ _ => rfl))) (pa_cons (pe_revL (pe_ix ix_tup (pe_ix ix_list (pv 1) pe_int (fun _ _ => rfl)) pe_int (fun _ _ => rfl))) pa_nil))))
      (pss_one (ps_ret (pe_and (pe_cmpR (op_eqD hr.units) (pv 8) (pe_tup (pa_cons pe_str (pa_cons pe_str pa_nil))) (nomark _))
        (pe_and (pe_cx (E := fun _ => E0) GI hr (Nat.le_refl _) (by rfl) at0 (pa_cons (pv 7) (pa_cons (pe_ix ix_list (pv 1) pe_int (fun _ _ => rfl)) pa_nil)))
        (pe_one (pe_cmpR (op_ownEq (E := E0) MQ FQ hr BQ (fun σ => at0 (E := fun _ => E0) σ)) (pv 7) (pe_cx (E := fun _ => E0) GB hr (Nat.le_refl _) (by rfl) at0 (pa_cons (pv 10) pa_nil)) (nomark _))))))))))))))), ?_⟩
    refine q_asgD (R := RoD) (n := 3) (vs := [2]) RoD.ex RoD.updD (ea_cons ev_c ea_nil) (by decide) (fun x => rfl) (fun i Dl acc H1 e1 hD hi H2 e2 Q2 q2 => ?_) (fun p H1 ys hp e1 h1 hl hys => ?_)
    · refine ⟨_, rfl, _, rfl, a, sn, i, rfl, ex_l (e1.trans e2) hS, fun c H3 e3 => ⟨c, 10, rfl, by decide, fun row hrl hrok rl H4 hrl4 e4 h4 => ⟨rl, row, rfl, h4, hrl, hrok, fun t nl ml ns ks H5 e5 n1 n2 g1 g2 g3 ok hl9 => ?_⟩⟩⟩
      have x4 := (e2.trans e3).trans e4
      exact q2 _ H5 ((e3.trans e4).trans e5) ⟨t, nl, ml, ns, ks, rfl, ne_of_none (x4 _ _ hD) n1 |>.symm, ne_of_none (x4 _ _ hD) n2 |>.symm, g1, g2, g3, ok, hl9⟩
    have rows : ∀ (x : V), x ∈ ys → ∃ t ns ks, x = .ref t ∧ RoAt H1 t ns ks ∧ RoOk ns ks ∧ ns.length ≤ 9 := fun x hx => (hys x hx).ro
    refine q_forLn (xs := ys) (K := K) (ev_var rfl) (sq_of h1) (fun i σ' H' => ∃ v3 v4 : Option V, σ' = [some (.ref a), some (.ref p), none, v3, v4, none, none, none, none, none, none] ∧ Ex H1 H') (fun H2 e2 => ⟨_, _, rfl, e2⟩) (fun i σ' H' _ ⟨_, _, _, he⟩ => sq_of (he _ _ h1)) (fun i x σ' H' hx ⟨v3, v4, hσ, he⟩ => ?_) (fun σ' H' ⟨v3, v4, hσ, he⟩ => ?_)
    · subst hσ
      obtain ⟨t, ns, ks, rfl, ro, ok, l9⟩ := rows x (List.mem_of_getElem? hx)
      refine s_forLn (xs := ys) (K := K) (ev_var rfl) (sq_of (he _ _ h1)) (fun i σ' H' => ∃ v4 : Option V, σ' = [some (.ref a), some (.ref p), none, some (.ref t), v4, none, none, none, none, none, none] ∧ Ex H1 H') (fun H2 e2 => ⟨_, rfl, he.trans e2⟩) (fun i σ' H' _ ⟨_, _, he⟩ => sq_of (he _ _ h1)) (fun i x σ' H' hx ⟨v4, hσ, he⟩ => ?_) (fun σ' H' ⟨v4, hσ, he⟩ => ⟨_, _, hσ, he⟩)
      subst hσ
      obtain ⟨u, ms, qs, rfl, ro2, ok2, m9⟩ := rows x (List.mem_of_getElem? hx)
      exact s_when (b := false) (et_is (et_not (et_B (ev_cx (ea_cons (ev_var rfl) (ea_cons (ev_var rfl) ea_nil)) (fun H3 e3 Q3 q3 E => ⟨t, u, ns, ms, ks, qs, rfl, ro.ex (he.trans e3), ro2.ex (he.trans e3), ok, ok2, l9, m9, q3⟩)))) rfl) (fun z => nomatch z) (fun _ H3 e3 => ⟨_, rfl, he.trans e3⟩)
    subst hσ
    obtain ⟨x0, hx0⟩ : ∃ x0, ys[0]? = some x0 := ⟨_, List.getElem?_eq_getElem (by rw [hl]; decide)⟩
    obtain ⟨t, ns, ks, rfl, ro, ok, l9⟩ := rows x0 (List.mem_of_getElem? hx0)
    have at0' : atI ys 0 = some (.ref t) := atI_nat (j := 0) hx0
    refine q_asgL (xs := [.str "x", .str "y"]) (el_lst (ea_cons ev_c (ea_cons ev_c ea_nil)) (by show 2 ≤ 100000; decide)) (fun pl H2 hpl e2 h2 => ?_)
    refine q_asgS (Pv := fun v H' => ∃ a b, v = .ref a ∧ DfAt CD H' a ["x", "y"] b ∧ PrAt C H' b (.choice .nil)) (es_defS (H := H2) (fun H3 e3 Q3 q3 => ⟨_, rfl, q3 _ H3 (Ex.refl H3) ⟨pl, rfl, .inl (e3 _ _ h2)⟩⟩)) (fun v H3 e3 ⟨df, b, hv, hd, hb⟩ => ?_)
    subst hv
    refine q_app (xs := [.str "x", .str "y"]) (v := .str "z") (e3 _ _ h2) (ev_var rfl) ev_c (by show 2 < 100000; decide) (fun H4 e4 => ?_)
    have h24 : H4 pl = some (.lst [.str "x", .str "y"]) := (e3.trans e4) _ _ h2
    have hplH : H' pl = none := hpl
    have x4 : Ex H' (upd H4 pl (.lst ([.str "x", .str "y"] ++ [.str "z"]))) := Ex.mut ((e2.trans e3).trans e4) hplH
    have hd4 := (hd.ex e4).keepC (.updL (o := .lst ([.str "x", .str "y"] ++ [.str "z"])) h24)
    have hb4 := (hb.ex e4).keepC (.updL (o := .lst ([.str "x", .str "y"] ++ [.str "z"])) h24)
    generalize upd H4 pl (.lst ([.str "x", .str "y"] ++ [.str "z"])) = H5 at x4 hd4 hb4
    obtain ⟨dx, tp, y1, y2⟩ := id hd4
    refine q_when (b := false) (et_is (et_or (a := false) (b := false) (et_test (ev_neDt (d := .tuple [.str "x", .str "y"]) (edt_v (ev_fld (ev_var rfl) y1 TD.cl TD.nP df_params) (fun H6 e6 => dp_tstrs (ns := ["x", "y"]) (e6 _ _ y2))) (edt_two ev_c ev_c (fun _ => .str _) (fun _ => .str _)) (by decide +kernel)))
      (fun _ => et_test (fun H6 e6 Q6 q6 => ⟨_, rfl, es_defS (H := H6) (fun H7 e7 Q7 q7 => eu_tup (vs := [.str "x", .str "y"]) (ea_cons ev_c (ea_cons ev_c ea_nil)) (by show 2 ≤ 100000; decide) H7 (Ex.refl H7) _ fun p7 H8 _ e8 h8 => q7 _ H8 e8 ⟨p7, rfl, .inr h8⟩) H6 (Ex.refl H6) _ fun v H7 e7 ⟨df2, b2, hv, hd2, hb2⟩ => by
        subst hv
        obtain ⟨dx2, tp2, z1, z2⟩ := id hd2
        exact ⟨true, ⟨df, df2, dx, dx2, _, _, rfl, rfl, (e6.trans e7) _ _ y1, z1, ["x", "y"], ["x", "y"], b, b2, _, _, hd4.ex (e6.trans e7), hd2, hb4.ex (e6.trans e7), hb2, by decide +kernel, by rw [same_self, same_self]; rfl⟩, fun H8 e8 => q6 H8 (e7.trans e8)⟩⟩))) rfl) (fun z => nomatch z) (fun _ H6 e6 => ?_)
    have x6 : Ex H1 H6 := (he.trans x4).trans e6
    refine q_asgS (Pv := fun v H' => ∃ b, v = .ref b ∧ H6 b = none ∧ BT CK CD C H' b ns ks) (fun H7 e7 Q7 q7 => ev_op (x := .ref p) (y := .int 0) (ev_var rfl) ev_c (rv_ixL (K := K) (sq_of (x6 _ _ h1)) at0') H7 e7 _ fun H8 e8 => ⟨t, ns, ks, rfl, ro.ex ((x6.trans e7).trans e8), ok, by omega, fun b H9 hb e9 h9 => q7 _ H9 (e8.trans e9) ⟨b, rfl, fresh_back (e7.trans e8) hb, h9⟩⟩) (fun v H7 e7 ⟨bk, hv, hbk, bt⟩ => ?_)
    subst hv
    refine ⟨_, rfl, _, rfl, bk, bk, ns, ns, ks, ks, rfl, bt, bt, by omega, by omega, fun p1 p2 ss sk out2 r ee H8 e8 k1 k2 k3 => ?_⟩
    obtain ⟨rfl, rfl, rfl, rfl⟩ := (Out.self ok (by omega)).uniq out2
    refine q_unp2R (K := K) k1 ?_
    have x8 : Ex H1 H8 := ExB.ex (fresh_back x6 hbk) (x6.trans e7) e8
    obtain ⟨nl, ml, r1, r2, r3⟩ := id ro
    have e0 : ∀ (σ9 : L2.St) (H9 : Hp), Ex H8 H9 → σ9[1]? = some (some (.ref p)) → Ev (tOp (rIxL K) (tVar 1) (tC (.int 0))) σ9 H9 (.ref t) := fun σ9 H9 e9 s1 => ev_op (x := .ref p) (y := .int 0) (ev_var s1) ev_c (rv_ixL (K := K) (sq_of ((x8.trans e9) _ _ h1)) at0')
    refine q_asgS (Pv := fun v H' => ∃ t, v = .ref t ∧ RoAt H' t ns.reverse ks.reverse) (fun H9 e9 Q9 q9 => es_tupLL (H := H9) (el_rev (K := K) (xs := ns.map V.str) (ev_op (x := .ref t) (y := .int 0) (e0 _ H9 e9 rfl) ev_c (rv_ixT (K := K) (st_of ((x8.trans e9) _ _ r1)) rfl)) ((x8.trans e9) _ _ r2)) (el_rev (K := K) (xs := ks.map V.int) (ev_op (x := .ref t) (y := .int 1) (e0 _ H9 e9 rfl) ev_c (rv_ixT (K := K) (st_of ((x8.trans e9) _ _ r1)) rfl)) ((x8.trans e9) _ _ r3)) H9 (Ex.refl H9) _ fun v H10 e10 ⟨t9, pp, qq, hv, g1, g2, g3⟩ => by
      subst hv
      exact q9 _ H10 e10 ⟨t9, rfl, pp, qq, g1, by rw [List.map_reverse]; exact g2, by rw [List.map_reverse]; exact g3⟩) (fun v H9 e9 ⟨t9, hv, ro9⟩ => ?_)
    subst hv
    have k29 := e9 _ _ k2
    have bt9 := k3.ex e9
    refine s_ret (v := .bl true) (ev_is (ev_andV (a := true) (b := true) (ev_eqDt (d := .tuple [.str "", .str ""]) (edt_v (ev_var rfl) (dp_two k29)) (edt_two ev_c ev_c (fun _ => .str _) (fun _ => .str _)) (by decide +kernel)) (fun _ => ev_is (ev_andV (a := true) (b := true) (ev_cx (ea_cons (ev_var rfl) (ea_cons (e0 _ H9 e9 rfl) ea_nil)) (sp_lis bt9 (ro.ex (x8.trans e9)) ok (by omega))) (fun _ => ?_)) rfl)) rfl) (fun H10 e10 => q H10)
    intro H10 e10 Q10 q10
    refine ⟨_, rfl, _, rfl, t9, ns.reverse, ks.reverse, rfl, ro9.ex e10, ok.rev, by rw [List.length_reverse]; omega, fun b11 H11 hb11 e11 bt11 => ?_⟩
    exact rv_bkEq (bt9.ex (e10.trans e11)) bt11 (iff_of_true rfl (agree_rev ok)) H11 (Ex.refl H11) _ (fun H12 e12 => q10 H12 (e11.trans e12))
end
end Fs

set_option Elab.async false
set_option linter.all false
set_option maxRecDepth 100000
set_option maxHeartbeats 8000000
namespace Fs
open PySem PySem.Spec PyProof.Rows L2 Evl FsE FsC FsR FsA FsD FsU FsK FsT FsQ FsB
theorem exm_own {K : PySem.W.Frag} {S : Addr} (h1 : PySem.W.subIn K (.ref S) (.type "BaseException") = some true) (h2 : PySem.W.isClsIn K S = true) (h3 : PySem.W.typeIn K (.ref S) = some (.type "type")) (h4 : PySem.W.subIn K (.ref S) (.ref S) = some true) : PySem.W.exmOne K (.ref S) (.ref S) = some true := by
  unfold PySem.W.exmOne PySem.W.kitCls
  have h2' : (PySem.W.clsIn K S).isSome = true := h2
  simp only [h1, h2', h3, h4, beq_self_eq_true, Bool.and_self, if_true]
theorem kit_no {K : PySem.W.Frag} {S : Addr} {T : String} (h2 : PySem.W.isClsIn K S = true) (h3 : PySem.W.typeIn K (.ref S) = some (.type "type")) (h4 : PySem.W.subIn K (.type T) (.ref S) = some false) : PySem.W.kitOne K (.type T) (.ref S) = some false := by
  unfold PySem.W.kitOne PySem.W.kitCls
  have h2' : (PySem.W.clsIn K S).isSome = true := h2
  have h0 : (Value.type T == Value.ref S) = false := rfl
  simp only [h0, h2', h3, h4, beq_self_eq_true, Bool.and_self, if_true]
  rfl
theorem kit_two {K : PySem.W.Frag} {C S : Addr} (h0 : (Value.ref C == Value.ref S) = false) (h2 : PySem.W.isClsIn K S = true) (h3 : PySem.W.typeIn K (.ref S) = some (.type "type")) (h4 : PySem.W.subIn K (.ref C) (.ref S) = some false) : PySem.W.kitOne K (.ref C) (.ref S) = some false := by
  unfold PySem.W.kitOne PySem.W.kitCls
  have h2' : (PySem.W.clsIn K S).isSome = true := h2
  simp only [h0, h2', h3, h4, beq_self_eq_true, Bool.and_self, if_true]
  rfl
theorem exm_b {K : PySem.W.Frag} {S D : Addr} {v : Bool} (h1 : PySem.W.subIn K (.ref D) (.type "BaseException") = some true) (h2 : PySem.W.isClsIn K D = true) (h3 : PySem.W.typeIn K (.ref D) = some (.type "type")) (h4 : PySem.W.subIn K (.ref S) (.ref D) = some v) : PySem.W.exmOne K (.ref S) (.ref D) = some v := by
  unfold PySem.W.exmOne PySem.W.kitCls
  have h2' : (PySem.W.clsIn K D).isSome = true := h2
  simp only [h1, h2', h3, h4, beq_self_eq_true, Bool.and_self, if_true]
theorem binds_bk2 {K : PySem.W.Frag} {f t0 : Addr} {fd : FuncData} (F : FunD K "__init__" "Book.__init__" (defArgs (inClass (topS 23) 0)) (defBody (inClass (topS 23) 0)) (defScope (inClass (topS 23) 0)) [.ref t0] [] f fd) : Binds K fd ["self", "given"] [] := by
  obtain ⟨ds, vd, bd⟩ := F.binds1 (ps := ["self", "given"]) 2 1 (by simp) rfl (fun T kV doc pm an cdv ct us its h1 h2 => match us, its, h1, h2 with | [_, _], [_], _, _ => ⟨_, rfl, rfl⟩)
  cases vd
  exact bd
theorem all_mk {P : Program} {w : World} {K : PySem.W.Frag} {h : Heap} {mg : Str → Option Value} {fa : Addr} (X : K.In h) (G : h.Ns mainGlobals mg) (hfa : mg "law" = some (.ref fa))
    {CB : Addr} {nmB qB : Str} {NB cS fB cda cc : Addr} {bsB : List Value} {snB : List Str} {subB : List Value} {abB : Bool} {colB : Option Bool} {ddB : Option Addr} {m0 m1 m2 m3 m5 : Option Value} {ocB kVB dcB pmB ctB ccl clB : Value} {odB anB cdd cld : Option Addr} {slB ccs csl : Array (Option Value)} {vsB : Array Value} {fileB : Str} {tfB : Tok} {zM : Str} {b1 b2 q0 r0 r1 r2 r3 r4 r5 r6 r7 r8 : Pos}
    {C2 N2 : Addr} {nm2 q2 : Str} {bs2 : List Value} {sn2 : List Str} {sub2 : List Value} {ab2 : Bool} {col2 : Option Bool} {dd2 : Option Addr} {m2_0 m2_1 m2_2 m2_3 m2_5 : Option Value}
    {fI2 cda2 cc2 : Addr} {ocB2 kVB2 dcB2 pmB2 ctB2 ccl2 clB2 : Value} {odB2 anB2 cdd2 cld2 : Option Addr} {slB2 ccs2 csl2 : Array (Option Value)} {vsB2 : Array Value} {fileB2 : Str} {tfB2 : Tok} {zM2 : Str} {b2_1 b2_2 q2_0 r2_0 r2_1 r2_2 r2_3 r2_4 r2_5 r2_6 r2_7 r2_8 : Pos}
    {C3 N3 : Addr} {nm3 q3 : Str} {bs3 : List Value} {sn3 : List Str} {sub3 : List Value} {ab3 : Bool} {col3 : Option Bool} {dd3 : Option Addr} {m3_0 m3_1 m3_2 m3_3 m3_5 : Option Value}
    {fI3 cda3 cc3 : Addr} {ocB3 kVB3 dcB3 pmB3 ctB3 ccl3 clB3 : Value} {odB3 anB3 cdd3 cld3 : Option Addr} {slB3 ccs3 csl3 : Array (Option Value)} {vsB3 : Array Value} {fileB3 : Str} {tfB3 : Tok} {zM3 : Str} {b3_1 b3_2 q3_0 r3_0 r3_1 r3_2 r3_3 r3_4 r3_5 r3_6 r3_7 r3_8 : Pos}
    {zL : Str} {tL : Tok}
    {zD : Str} {tD : Tok}
    {iN : Int} {tN : Tok}
    {iT : Int} {tT : Tok}
    {iM : Int} {tM : Tok}
    {iDe : Int} {tDe : Tok}
    {iSi : Int} {tSi : Tok}
    {aR : Addr} {odR : Option Addr} {slR : Array (Option Value)} {itsR : Array Value} {nR : Nat}
    {C : Addr}
    {finit : Addr} {odinit aninit : Option Addr} {slinit : Array (Option Value)} {ocinit kVinit dcinit pminit cdinit ctinit : Value}
    {fisname : Addr} {odisname anisname : Option Addr} {slisname : Array (Option Value)} {ocisname kVisname dcisname pmisname cdisname ctisname : Value}
    {fisint : Addr} {odisint anisint : Option Addr} {slisint : Array (Option Value)} {ocisint kVisint dcisint pmisint cdisint ctisint : Value}
    {fisshort : Addr} {odisshort anisshort : Option Addr} {slisshort : Array (Option Value)} {ocisshort kVisshort dcisshort pmisshort cdisshort ctisshort : Value}
    {fisop : Addr} {odisop anisop : Option Addr} {slisop : Array (Option Value)} {ocisop kVisop dcisop pmisop cdisop ctisop : Value}
    {fdemand : Addr} {oddemand andemand : Option Addr} {sldemand : Array (Option Value)} {ocdemand kVdemand dcdemand pmdemand cddemand ctdemand : Value}
    {finner : Addr} {odinner aninner : Option Addr} {slinner : Array (Option Value)} {ocinner kVinner dcinner pminner cdinner ctinner : Value}
    {fsize : Addr} {odsize ansize : Option Addr} {slsize : Array (Option Value)} {ocsize kVsize dcsize pmsize cdsize ctsize : Value}
    {fdepth : Addr} {oddepth andepth : Option Addr} {sldepth : Array (Option Value)} {ocdepth kVdepth dcdepth pmdepth cddepth ctdepth : Value}
    {iOp : Int} {tOp : Tok}
    {pcall : Addr} {restcall : List Value}
    {fstcall : Addr} {odstcall anstcall : Option Addr} {slstcall : Array (Option Value)} {ocstcall kVstcall dcstcall pmstcall cdstcall ctstcall : Value}
    {pstop : Addr} {reststop : List Value}
    {fststop : Addr} {odststop anststop : Option Addr} {slststop : Array (Option Value)} {ocststop kVststop dcststop pmststop cdststop ctststop : Value}
    {fpeq : Addr} {odpeq anpeq : Option Addr} {slpeq : Array (Option Value)} {ocpeq kVpeq dcpeq pmpeq cdpeq ctpeq : Value}
    {CK : Addr}
    {CD : Addr}
    {fbin : Addr} {odbin anbin : Option Addr} {slbin : Array (Option Value)} {ocbin kVbin dcbin pmbin cdbin ctbin : Value} {aTD aT0 : Addr} {odTD : Option Addr} {nTD nT0 : Nat} {slTD slT0 : Array (Option Value)} {clTD : Value}
    {fbset : Addr} {odbset anbset : Option Addr} {slbset : Array (Option Value)} {ocbset kVbset dcbset pmbset cdbset ctbset : Value}
    {fbget : Addr} {odbget anbget : Option Addr} {slbget : Array (Option Value)} {ocbget kVbget dcbget pmbget cdbget ctbget : Value}
    {fblen : Addr} {odblen anblen : Option Addr} {slblen : Array (Option Value)} {ocblen kVblen dcblen pmblen cdblen ctblen : Value}
    {fbnames : Addr} {odbnames anbnames : Option Addr} {slbnames : Array (Option Value)} {ocbnames kVbnames dcbnames pmbnames cdbnames ctbnames : Value}
    {fbeq : Addr} {odbeq anbeq : Option Addr} {slbeq : Array (Option Value)} {ocbeq kVbeq dcbeq pmbeq cdbeq ctbeq : Value}
    {fbor : Addr} {odbor anbor : Option Addr} {slbor : Array (Option Value)} {ocbor kVbor dcbor pmbor cdbor ctbor : Value}
    {fbio : Addr} {odbio anbio : Option Addr} {slbio : Array (Option Value)} {ocbio kVbio dcbio pmbio cdbio ctbio : Value}
    {fdin : Addr} {oddin andin : Option Addr} {sldin : Array (Option Value)} {ocdin kVdin dcdin pmdin cddin ctdin : Value}
    {iMd : Int} {tMd : Tok}
    {iMp : Int} {tMp : Tok}
    {fdeq : Addr} {oddeq andeq : Option Addr} {sldeq : Array (Option Value)} {ocdeq kVdeq dcdeq pmdeq cddeq ctdeq : Value}
    {farenames : Addr} {odarenames anarenames : Option Addr} {slarenames : Array (Option Value)} {ocarenames kVarenames dcarenames pmarenames cdarenames ctarenames : Value}
    {flim : Addr} {odlim anlim : Option Addr} {sllim : Array (Option Value)} {oclim kVlim dclim pmlim cdlim ctlim : Value}
    {funi : Addr} {oduni anuni : Option Addr} {sluni : Array (Option Value)} {ocuni kVuni dcuni pmuni cduni ctuni : Value}
    {fcellat : Addr} {odcellat ancellat : Option Addr} {slcellat : Array (Option Value)} {occellat kVcellat dccellat pmcellat cdcellat ctcellat : Value}
    {fmixed : Addr} {odmixed anmixed : Option Addr} {slmixed : Array (Option Value)} {ocmixed kVmixed dcmixed pmmixed cdmixed ctmixed : Value}
    {frow : Addr} {odrow anrow : Option Addr} {slrow : Array (Option Value)} {ocrow kVrow dcrow pmrow cdrow ctrow : Value}
    {fdefn : Addr} {oddefn andefn : Option Addr} {sldefn : Array (Option Value)} {ocdefn kVdefn dcdefn pmdefn cddefn ctdefn : Value}
    {frows : Addr} {odrows anrows : Option Addr} {slrows : Array (Option Value)} {ocrows kVrows dcrows pmrows cdrows ctrows : Value}
    {flbk : Addr} {odlbk anlbk : Option Addr} {sllbk : Array (Option Value)} {oclbk kVlbk dclbk pmlbk cdlbk ctlbk : Value}
    {flis : Addr} {odlis anlis : Option Addr} {sllis : Array (Option Value)} {oclis kVlis dclis pmlis cdlis ctlis : Value}
    {fdue : Addr} {oddue andue : Option Addr} {sldue : Array (Option Value)} {ocdue kVdue dcdue pmdue cddue ctdue : Value}
    {fljo : Addr} {odljo anljo : Option Addr} {slljo : Array (Option Value)} {ocljo kVljo dcljo pmljo cdljo ctljo : Value}
    {flex : Addr} {odlex anlex : Option Addr} {sllex : Array (Option Value)} {oclex kVlex dclex pmlex cdlex ctlex : Value}
    {fleq : Addr} {odleq anleq : Option Addr} {slleq : Array (Option Value)} {ocleq kVleq dcleq pmleq cdleq ctleq : Value}
    {ftwo : Addr} {odtwo antwo : Option Addr} {sltwo : Array (Option Value)} {octwo kVtwo dctwo pmtwo cdtwo cttwo : Value}
    {flaw : Addr} {odlaw anlaw : Option Addr} {sllaw : Array (Option Value)} {oclaw kVlaw dclaw pmlaw cdlaw ctlaw : Value}
    (aB : PySem.W.nsIn K mainGlobals "BadTerm" = some (some (.ref CB)))
    (xB : K.lookup CB = some (excClassObj nmB qB CB NB bsB [.ref cS, .type "ValueError", .type "Exception", .type "BaseException", .type "object"] true snB subB abB colB ddB m0 m1 m2 m3 m5 "ValueError.__new__"))
    (eiB : PySem.W.excInitIn K CB [.type "ValueError", .type "Exception", .type "BaseException", .type "object"] "ValueError.__new__" = true)
    (saB : PySem.W.findIn K (.ref CB) "__setattr__" = some (some (.builtin "object.__setattr__")))
    (noB : PySem.W.findIn K (.ref CB) "field" = some none)
    (iB : PySem.W.findIn K (.ref CB) "__init__" = some (some (.ref fB)))
    (tB : PySem.W.typeIn K (.ref fB) = some (.type "function"))
    (kB : PySem.W.keepIn K (.ref CB) = true)
    (exB : PySem.W.subIn K (.ref CB) (.type "BaseException") = some true)
    (veB : PySem.W.subIn K (.ref CB) (.type "ValueError") = some true)
    (tyB : PySem.W.typeIn K (.ref CB) = some (.type "type"))
    (mroB : PySem.W.mroIn K CB (.ref CB) = some true)
    (spB : PySem.W.ks_superIn K CB CB "__init__" = some (some (.builtin "ValueError.__init__")))
    (opq : PySem.W.nsIn K cStatics "thirdparty.any" = some none)
    (lB : K.lookup fB = some ⟨ocB, odB, .func (PySem.W.ksFn "__init__" "BadTerm.__init__" (FsB.eA b1 b2) (FsB.eB (FsB.eM zM q0) r0 r1 r2 r3 r4 r5 r6 r7 r8) FsB.eS .none kVB dcB pmB anB (.ref cda) ctB cc), slB⟩)
    (cB : PySem.W.codeIn K (.ref cda) "BadTerm.__init__" = true)
    (oB : K.lookup cda = some ⟨ccl, cdd, .fields vsB, ccs⟩)
    (vB : vsB[2]? = some (.str fileB tfB))
    (fB1 : ((P.main.file : Str) == fileB) = true)
    (ceB : K.lookup cc = some ⟨clB, cld, .cell (some (.ref CB)), csl⟩)
    (lnB : (r2.endLine == r3.line) = true)
    (zMB : zM.length ≤ 1000)
    (topB : (P.main.scope.names.lookup ("super" : Str)).isSome = false)
    (gaB : PySem.W.findIn K (.ref CB) "__getattribute__" = some (some (.builtin "BaseException.__getattribute__")))
    (ggB : PySem.W.findIn K (.ref CB) "__getattr__" = some none)
    (hdB : PySem.W.hasDictIn K CB = true)
    (icB : PySem.W.isClsIn K CB = true)
    (sbB : PySem.W.subIn K (.ref CB) (.ref CB) = some true)
    (z_super : PySem.W.nsIn K mainGlobals "super" = some (none))
    (gn2 : PySem.W.nsIn K mainGlobals "Clash" = some (some (.ref C2)))
    (x2 : K.lookup C2 = some (excClassObj nm2 q2 C2 N2 bs2 [.ref cS, .type "ValueError", .type "Exception", .type "BaseException", .type "object"] true sn2 sub2 ab2 col2 dd2 m2_0 m2_1 m2_2 m2_3 m2_5 "ValueError.__new__"))
    (ga2 : PySem.W.findIn K (.ref C2) "__getattribute__" = some (some (.builtin "BaseException.__getattribute__")))
    (gg2 : PySem.W.findIn K (.ref C2) "__getattr__" = some none)
    (sa2 : PySem.W.findIn K (.ref C2) "__setattr__" = some (some (.builtin "object.__setattr__")))
    (no2 : PySem.W.findIn K (.ref C2) "name" = some none)
    (iB2 : PySem.W.findIn K (.ref C2) "__init__" = some (some (.ref fI2)))
    (ex2 : PySem.W.subIn K (.ref C2) (.type "BaseException") = some true)
    (ve2 : PySem.W.subIn K (.ref C2) (.type "ValueError") = some true)
    (hd2 : PySem.W.hasDictIn K C2 = true)
    (ty2 : PySem.W.typeIn K (.ref C2) = some (.type "type"))
    (kp2 : PySem.W.keepIn K (.ref C2) = true)
    (ic2 : PySem.W.isClsIn K C2 = true)
    (sb2 : PySem.W.subIn K (.ref C2) (.ref C2) = some true)
    (ei2 : PySem.W.excInitIn K C2 [.type "ValueError", .type "Exception", .type "BaseException", .type "object"] "ValueError.__new__" = true)
    (tB2 : PySem.W.typeIn K (.ref fI2) = some (.type "function"))
    (mr2 : PySem.W.mroIn K C2 (.ref C2) = some true)
    (sp2 : PySem.W.ks_superIn K C2 C2 "__init__" = some (some (.builtin "ValueError.__init__")))
    (lB2 : K.lookup fI2 = some ⟨ocB2, odB2, .func (PySem.W.ksFn "__init__" "Clash.__init__" (FsBname.eA b2_1 b2_2) (FsBname.eB (FsBname.eM zM2 q2_0) r2_0 r2_1 r2_2 r2_3 r2_4 r2_5 r2_6 r2_7 r2_8) FsBname.eS .none kVB2 dcB2 pmB2 anB2 (.ref cda2) ctB2 cc2), slB2⟩)
    (cB2 : PySem.W.codeIn K (.ref cda2) "Clash.__init__" = true)
    (oB2 : K.lookup cda2 = some ⟨ccl2, cdd2, .fields vsB2, ccs2⟩)
    (vB2 : vsB2[2]? = some (.str fileB2 tfB2))
    (fB2 : ((P.main.file : Str) == fileB2) = true)
    (ce2 : K.lookup cc2 = some ⟨clB2, cld2, .cell (some (.ref C2)), csl2⟩)
    (ln2 : (r2_2.endLine == r2_3.line) = true)
    (zM2l : zM2.length ≤ 1000)
    (gn3 : PySem.W.nsIn K mainGlobals "NoName" = some (some (.ref C3)))
    (x3 : K.lookup C3 = some (excClassObj nm3 q3 C3 N3 bs3 [.ref cS, .type "ValueError", .type "Exception", .type "BaseException", .type "object"] true sn3 sub3 ab3 col3 dd3 m3_0 m3_1 m3_2 m3_3 m3_5 "ValueError.__new__"))
    (ga3 : PySem.W.findIn K (.ref C3) "__getattribute__" = some (some (.builtin "BaseException.__getattribute__")))
    (gg3 : PySem.W.findIn K (.ref C3) "__getattr__" = some none)
    (sa3 : PySem.W.findIn K (.ref C3) "__setattr__" = some (some (.builtin "object.__setattr__")))
    (no3 : PySem.W.findIn K (.ref C3) "name" = some none)
    (iB3 : PySem.W.findIn K (.ref C3) "__init__" = some (some (.ref fI3)))
    (ex3 : PySem.W.subIn K (.ref C3) (.type "BaseException") = some true)
    (ve3 : PySem.W.subIn K (.ref C3) (.type "ValueError") = some true)
    (hd3 : PySem.W.hasDictIn K C3 = true)
    (ty3 : PySem.W.typeIn K (.ref C3) = some (.type "type"))
    (kp3 : PySem.W.keepIn K (.ref C3) = true)
    (ic3 : PySem.W.isClsIn K C3 = true)
    (sb3 : PySem.W.subIn K (.ref C3) (.ref C3) = some true)
    (ei3 : PySem.W.excInitIn K C3 [.type "ValueError", .type "Exception", .type "BaseException", .type "object"] "ValueError.__new__" = true)
    (tB3 : PySem.W.typeIn K (.ref fI3) = some (.type "function"))
    (mr3 : PySem.W.mroIn K C3 (.ref C3) = some true)
    (sp3 : PySem.W.ks_superIn K C3 C3 "__init__" = some (some (.builtin "ValueError.__init__")))
    (lB3 : K.lookup fI3 = some ⟨ocB3, odB3, .func (PySem.W.ksFn "__init__" "NoName.__init__" (FsBname.eA b3_1 b3_2) (FsBname.eB (FsBname.eM zM3 q3_0) r3_0 r3_1 r3_2 r3_3 r3_4 r3_5 r3_6 r3_7 r3_8) FsBname.eS .none kVB3 dcB3 pmB3 anB3 (.ref cda3) ctB3 cc3), slB3⟩)
    (cB3 : PySem.W.codeIn K (.ref cda3) "NoName.__init__" = true)
    (oB3 : K.lookup cda3 = some ⟨ccl3, cdd3, .fields vsB3, ccs3⟩)
    (vB3 : vsB3[2]? = some (.str fileB3 tfB3))
    (fB3 : ((P.main.file : Str) == fileB3) = true)
    (ce3 : K.lookup cc3 = some ⟨clB3, cld3, .cell (some (.ref C3)), csl3⟩)
    (ln3 : (r3_2.endLine == r3_3.line) = true)
    (zM3l : zM3.length ≤ 1000)
    (gL : PySem.W.nsIn K mainGlobals "LETTERS" = some (some (.str zL tL)))
    (hL : zL = lettersS)
    (gD : PySem.W.nsIn K mainGlobals "DIGITS" = some (some (.str zD tD)))
    (hD : zD = digitsS)
    (gN : PySem.W.nsIn K mainGlobals "NAME_LENGTH" = some (some (.int iN tN)))
    (hN : iN = 8)
    (gT : PySem.W.nsIn K mainGlobals "TOO_LONG" = some (some (.int iT tT)))
    (hT : iT = 10 ^ 30)
    (gM : PySem.W.nsIn K mainGlobals "MOST_SEATS" = some (some (.int iM tM)))
    (hM : iM = 4)
    (gDe : PySem.W.nsIn K mainGlobals "MOST_DEPTH" = some (some (.int iDe tDe)))
    (hDe : iDe = 20)
    (gSi : PySem.W.nsIn K mainGlobals "MOST_SIZE" = some (some (.int iSi tSi)))
    (hSi : iSi = 400)
    (gR : PySem.W.nsIn K mainGlobals "RESERVED" = some (some (.ref aR)))
    (lR : K.lookup aR = some ⟨.type "tuple", odR, .seq itsR nR, slR⟩)
    (sR : itsR.size ≤ 1000)
    (hR : Vals reservedV itsR.toList)
    (z_isinstance : PySem.W.nsIn K mainGlobals "isinstance" = some (none))
    (z_str : PySem.W.nsIn K mainGlobals "str" = some (none))
    (z_int : PySem.W.nsIn K mainGlobals "int" = some (none))
    (z_bool : PySem.W.nsIn K mainGlobals "bool" = some (none))
    (z_len : PySem.W.nsIn K mainGlobals "len" = some (none))
    (z_all : PySem.W.nsIn K mainGlobals "all" = some (none))
    (aC : PySem.W.nsIn K mainGlobals "Process" = some (some (.ref C)))
    (pg : PySem.W.plainGet K C Str.empty = true)
    (hd : PySem.W.hasDictIn K C = true)
    (po : PySem.W.plainOver K C = true)
    (sa : PySem.W.findIn K (.ref C) "__setattr__" = some (some (.builtin "object.__setattr__")))
    (n_kind : PySem.W.findIn K (.ref C) "kind" = some none)
    (n_parts : PySem.W.findIn K (.ref C) "parts" = some none)
    (n_depth : PySem.W.findIn K (.ref C) "depth" = some none)
    (n_size : PySem.W.findIn K (.ref C) "size" = some none)
    (mk : PySem.W.makesIn K C = true)
    (kc : PySem.W.keepIn K (.ref C) = true)
    (ha : PySem.W.findIn K (.ref C) "__class__" = some (some (.builtin "object.__class__")))
    (hn : PySem.W.specialIn K (.builtin "object.__class__") "__get__" = some (some (.builtin "getset_descriptor.__get__")))
    (ht : PySem.W.takesIn K (.builtin "object.__class__") = some true)
    (hm : PySem.W.mroIn K C (.type "object") = some true)
    (ic : PySem.W.isClsIn K C = true)
    (ty : PySem.W.typeIn K (.ref C) = some (.type "type"))
    (no_str : PySem.W.subIn K (.type "str") (.ref C) = some false)
    (no_int : PySem.W.subIn K (.type "int") (.ref C) = some false)
    (no_tuple : PySem.W.subIn K (.type "tuple") (.ref C) = some false)
    (z_sum : PySem.W.nsIn K mainGlobals "sum" = some (none))
    (z_max : PySem.W.nsIn K mainGlobals "max" = some (none))
    (z_tuple : PySem.W.nsIn K mainGlobals "tuple" = some (none))
    (minit : PySem.W.findIn K (.ref C) "__init__" = some (some (.ref finit)))
    (iinit : PySem.W.isFn K (.ref finit) = true)
    (linit : K.lookup finit = some ⟨ocinit, odinit, .func (PySem.W.fnOf "__init__" "Process.__init__" (defArgs (inClass (topS 36) 0)) (defBody (inClass (topS 36) 0)) (defScope (inClass (topS 36) 0)) .none kVinit dcinit pminit aninit cdinit ctinit), slinit⟩)
    (cinit : PySem.W.codeIn K cdinit "Process.__init__" = true)
    (kinit : PySem.W.keepIn K (.ref finit) = true)
    (aisname : PySem.W.nsIn K mainGlobals "is_name" = some (some (.ref fisname)))
    (lisname : K.lookup fisname = some ⟨ocisname, odisname, .func (PySem.W.fnOf "is_name" "is_name" (defArgs (topS 8)) (defBody (topS 8)) (defScope (topS 8)) .none kVisname dcisname pmisname anisname cdisname ctisname), slisname⟩)
    (cisname : PySem.W.codeIn K cdisname "is_name" = true)
    (kisname : PySem.W.keepIn K (.ref fisname) = true)
    (aisint : PySem.W.nsIn K mainGlobals "is_int" = some (some (.ref fisint)))
    (lisint : K.lookup fisint = some ⟨ocisint, odisint, .func (PySem.W.fnOf "is_int" "is_int" (defArgs (topS 10)) (defBody (topS 10)) (defScope (topS 10)) .none kVisint dcisint pmisint anisint cdisint ctisint), slisint⟩)
    (cisint : PySem.W.codeIn K cdisint "is_int" = true)
    (kisint : PySem.W.keepIn K (.ref fisint) = true)
    (aisshort : PySem.W.nsIn K mainGlobals "is_short" = some (some (.ref fisshort)))
    (lisshort : K.lookup fisshort = some ⟨ocisshort, odisshort, .func (PySem.W.fnOf "is_short" "is_short" (defArgs (topS 11)) (defBody (topS 11)) (defScope (topS 11)) .none kVisshort dcisshort pmisshort anisshort cdisshort ctisshort), slisshort⟩)
    (cisshort : PySem.W.codeIn K cdisshort "is_short" = true)
    (kisshort : PySem.W.keepIn K (.ref fisshort) = true)
    (aisop : PySem.W.nsIn K mainGlobals "is_operand" = some (some (.ref fisop)))
    (lisop : K.lookup fisop = some ⟨ocisop, odisop, .func (PySem.W.fnOf "is_operand" "is_operand" (defArgs (topS 12)) (defBody (topS 12)) (defScope (topS 12)) .none kVisop dcisop pmisop anisop cdisop ctisop), slisop⟩)
    (cisop : PySem.W.codeIn K cdisop "is_operand" = true)
    (kisop : PySem.W.keepIn K (.ref fisop) = true)
    (ademand : PySem.W.nsIn K mainGlobals "demand" = some (some (.ref fdemand)))
    (ldemand : K.lookup fdemand = some ⟨ocdemand, oddemand, .func (PySem.W.fnOf "demand" "demand" (defArgs (topS 32)) (defBody (topS 32)) (defScope (topS 32)) .none kVdemand dcdemand pmdemand andemand cddemand ctdemand), sldemand⟩)
    (cdemand : PySem.W.codeIn K cddemand "demand" = true)
    (kdemand : PySem.W.keepIn K (.ref fdemand) = true)
    (ainner : PySem.W.nsIn K mainGlobals "inner_processes" = some (some (.ref finner)))
    (linner : K.lookup finner = some ⟨ocinner, odinner, .func (PySem.W.fnOf "inner_processes" "inner_processes" (defArgs (topS 33)) (defBody (topS 33)) (defScope (topS 33)) .none kVinner dcinner pminner aninner cdinner ctinner), slinner⟩)
    (cinner : PySem.W.codeIn K cdinner "inner_processes" = true)
    (kinner : PySem.W.keepIn K (.ref finner) = true)
    (asize : PySem.W.nsIn K mainGlobals "size_of" = some (some (.ref fsize)))
    (lsize : K.lookup fsize = some ⟨ocsize, odsize, .func (PySem.W.fnOf "size_of" "size_of" (defArgs (topS 34)) (defBody (topS 34)) (defScope (topS 34)) .none kVsize dcsize pmsize ansize cdsize ctsize), slsize⟩)
    (csize : PySem.W.codeIn K cdsize "size_of" = true)
    (ksize : PySem.W.keepIn K (.ref fsize) = true)
    (adepth : PySem.W.nsIn K mainGlobals "depth_of" = some (some (.ref fdepth)))
    (ldepth : K.lookup fdepth = some ⟨ocdepth, oddepth, .func (PySem.W.fnOf "depth_of" "depth_of" (defArgs (topS 35)) (defBody (topS 35)) (defScope (topS 35)) .none kVdepth dcdepth pmdepth andepth cddepth ctdepth), sldepth⟩)
    (cdepth : PySem.W.codeIn K cddepth "depth_of" = true)
    (kdepth : PySem.W.keepIn K (.ref fdepth) = true)
    (gOp : PySem.W.nsIn K mainGlobals "MOST_OPERANDS" = some (some (.int iOp tOp)))
    (hOp : iOp = 4)
    (rdC : PySem.W.readsIn K C (.type "type") = true)
    (gaC : PySem.W.specialIn K (.ref C) "__getattribute__" = some (some (.builtin "type.__getattribute__")))
    (scall : PySem.W.findCls K (.ref C) (.type "type") "call" = some (.get (.builtin "staticmethod.__get__") (.ref pcall) .none (.ref C)))
    (rcall : PySem.W.recIn K pcall "staticmethod" = some (.ref fstcall :: restcall))
    (lstcall : K.lookup fstcall = some ⟨ocstcall, odstcall, .func (PySem.W.fnOf "call" "Process.call" (defArgs (inClass (topS 36) 5)) (defBody (inClass (topS 36) 5)) (defScope (inClass (topS 36) 5)) .none kVstcall dcstcall pmstcall anstcall cdstcall ctstcall), slstcall⟩)
    (cstcall : PySem.W.codeIn K cdstcall "Process.call" = true)
    (kstcall : PySem.W.keepIn K (.ref fstcall) = true)
    (sstop : PySem.W.findCls K (.ref C) (.type "type") "stop" = some (.get (.builtin "staticmethod.__get__") (.ref pstop) .none (.ref C)))
    (rstop : PySem.W.recIn K pstop "staticmethod" = some (.ref fststop :: reststop))
    (lststop : K.lookup fststop = some ⟨ocststop, odststop, .func (PySem.W.fnOf "stop" "Process.stop" (defArgs (inClass (topS 36) 1)) (defBody (inClass (topS 36) 1)) (defScope (inClass (topS 36) 1)) .none kVststop dcststop pmststop anststop cdststop ctststop), slststop⟩)
    (cststop : PySem.W.codeIn K cdststop "Process.stop" = true)
    (kststop : PySem.W.keepIn K (.ref fststop) = true)
    (mpeq : PySem.W.findIn K (.ref C) "__eq__" = some (some (.ref fpeq)))
    (ipeq : PySem.W.isFn K (.ref fpeq) = true)
    (lpeq : K.lookup fpeq = some ⟨ocpeq, odpeq, .func (PySem.W.fnOf "__eq__" "Process.__eq__" (defArgs (inClass (topS 36) 6)) (defBody (inClass (topS 36) 6)) (defScope (inClass (topS 36) 6)) .none kVpeq dcpeq pmpeq anpeq cdpeq ctpeq), slpeq⟩)
    (cpeq : PySem.W.codeIn K cdpeq "Process.__eq__" = true)
    (kpeq : PySem.W.keepIn K (.ref fpeq) = true)
    (aCK : PySem.W.nsIn K mainGlobals "Book" = some (some (.ref CK)))
    (pgK : PySem.W.plainGet K CK Str.empty = true)
    (hdK : PySem.W.hasDictIn K CK = true)
    (poK : PySem.W.plainOver K CK = true)
    (saK : PySem.W.findIn K (.ref CK) "__setattr__" = some (some (.builtin "object.__setattr__")))
    (nK_by_name : PySem.W.findIn K (.ref CK) "by_name" = some none)
    (mkK : PySem.W.makesIn K CK = true)
    (kcK : PySem.W.keepIn K (.ref CK) = true)
    (haK : PySem.W.findIn K (.ref CK) "__class__" = some (some (.builtin "object.__class__")))
    (hmK : PySem.W.mroIn K CK (.type "object") = some true)
    (icK : PySem.W.isClsIn K CK = true)
    (tyK : PySem.W.typeIn K (.ref CK) = some (.type "type"))
    (aCD : PySem.W.nsIn K mainGlobals "Definition" = some (some (.ref CD)))
    (pgD : PySem.W.plainGet K CD Str.empty = true)
    (hdD : PySem.W.hasDictIn K CD = true)
    (poD : PySem.W.plainOver K CD = true)
    (saD : PySem.W.findIn K (.ref CD) "__setattr__" = some (some (.builtin "object.__setattr__")))
    (nD_params : PySem.W.findIn K (.ref CD) "params" = some none)
    (nD_body : PySem.W.findIn K (.ref CD) "body" = some none)
    (mkD : PySem.W.makesIn K CD = true)
    (kcD : PySem.W.keepIn K (.ref CD) = true)
    (haD : PySem.W.findIn K (.ref CD) "__class__" = some (some (.builtin "object.__class__")))
    (hmD : PySem.W.mroIn K CD (.type "object") = some true)
    (icD : PySem.W.isClsIn K CD = true)
    (tyD : PySem.W.typeIn K (.ref CD) = some (.type "type"))
    (mbin : PySem.W.findIn K (.ref CK) "__init__" = some (some (.ref fbin)))
    (ibin : PySem.W.isFn K (.ref fbin) = true)
    (lbin : K.lookup fbin = some ⟨ocbin, odbin, .func (PySem.W.fnOf "__init__" "Book.__init__" (defArgs (inClass (topS 23) 0)) (defBody (inClass (topS 23) 0)) (defScope (inClass (topS 23) 0)) (.ref aTD) kVbin dcbin pmbin anbin cdbin ctbin), slbin⟩)
    (cbin : PySem.W.codeIn K cdbin "Book.__init__" = true)
    (kbin : PySem.W.keepIn K (.ref fbin) = true)
    (lkD : K.lookup aTD = some ⟨clTD, odTD, .seq #[.ref aT0] nTD, slTD⟩)
    (lk0 : K.lookup aT0 = some ⟨.type "tuple", none, .seq #[] nT0, slT0⟩)
    (mbset : PySem.W.findIn K (.ref CK) "__setitem__" = some (some (.ref fbset)))
    (ibset : PySem.W.isFn K (.ref fbset) = true)
    (lbset : K.lookup fbset = some ⟨ocbset, odbset, .func (PySem.W.fnOf "__setitem__" "Book.__setitem__" (defArgs (inClass (topS 23) 1)) (defBody (inClass (topS 23) 1)) (defScope (inClass (topS 23) 1)) .none kVbset dcbset pmbset anbset cdbset ctbset), slbset⟩)
    (cbset : PySem.W.codeIn K cdbset "Book.__setitem__" = true)
    (kbset : PySem.W.keepIn K (.ref fbset) = true)
    (mbget : PySem.W.findIn K (.ref CK) "__getitem__" = some (some (.ref fbget)))
    (ibget : PySem.W.isFn K (.ref fbget) = true)
    (lbget : K.lookup fbget = some ⟨ocbget, odbget, .func (PySem.W.fnOf "__getitem__" "Book.__getitem__" (defArgs (inClass (topS 23) 2)) (defBody (inClass (topS 23) 2)) (defScope (inClass (topS 23) 2)) .none kVbget dcbget pmbget anbget cdbget ctbget), slbget⟩)
    (cbget : PySem.W.codeIn K cdbget "Book.__getitem__" = true)
    (kbget : PySem.W.keepIn K (.ref fbget) = true)
    (mblen : PySem.W.findIn K (.ref CK) "__len__" = some (some (.ref fblen)))
    (iblen : PySem.W.isFn K (.ref fblen) = true)
    (lblen : K.lookup fblen = some ⟨ocblen, odblen, .func (PySem.W.fnOf "__len__" "Book.__len__" (defArgs (inClass (topS 23) 4)) (defBody (inClass (topS 23) 4)) (defScope (inClass (topS 23) 4)) .none kVblen dcblen pmblen anblen cdblen ctblen), slblen⟩)
    (cblen : PySem.W.codeIn K cdblen "Book.__len__" = true)
    (kblen : PySem.W.keepIn K (.ref fblen) = true)
    (mbnames : PySem.W.findIn K (.ref CK) "names" = some (some (.ref fbnames)))
    (ibnames : PySem.W.isFn K (.ref fbnames) = true)
    (lbnames : K.lookup fbnames = some ⟨ocbnames, odbnames, .func (PySem.W.fnOf "names" "Book.names" (defArgs (inClass (topS 23) 7)) (defBody (inClass (topS 23) 7)) (defScope (inClass (topS 23) 7)) .none kVbnames dcbnames pmbnames anbnames cdbnames ctbnames), slbnames⟩)
    (cbnames : PySem.W.codeIn K cdbnames "Book.names" = true)
    (kbnames : PySem.W.keepIn K (.ref fbnames) = true)
    (mbeq : PySem.W.findIn K (.ref CK) "__eq__" = some (some (.ref fbeq)))
    (ibeq : PySem.W.isFn K (.ref fbeq) = true)
    (lbeq : K.lookup fbeq = some ⟨ocbeq, odbeq, .func (PySem.W.fnOf "__eq__" "Book.__eq__" (defArgs (inClass (topS 23) 6)) (defBody (inClass (topS 23) 6)) (defScope (inClass (topS 23) 6)) .none kVbeq dcbeq pmbeq anbeq cdbeq ctbeq), slbeq⟩)
    (cbeq : PySem.W.codeIn K cdbeq "Book.__eq__" = true)
    (kbeq : PySem.W.keepIn K (.ref fbeq) = true)
    (mbor : PySem.W.findIn K (.ref CK) "__or__" = some (some (.ref fbor)))
    (ibor : PySem.W.isFn K (.ref fbor) = true)
    (lbor : K.lookup fbor = some ⟨ocbor, odbor, .func (PySem.W.fnOf "__or__" "Book.__or__" (defArgs (inClass (topS 23) 8)) (defBody (inClass (topS 23) 8)) (defScope (inClass (topS 23) 8)) .none kVbor dcbor pmbor anbor cdbor ctbor), slbor⟩)
    (cbor : PySem.W.codeIn K cdbor "Book.__or__" = true)
    (kbor : PySem.W.keepIn K (.ref fbor) = true)
    (mbio : PySem.W.findIn K (.ref CK) "__ior__" = some (some (.ref fbio)))
    (ibio : PySem.W.isFn K (.ref fbio) = true)
    (lbio : K.lookup fbio = some ⟨ocbio, odbio, .func (PySem.W.fnOf "__ior__" "Book.__ior__" (defArgs (inClass (topS 23) 9)) (defBody (inClass (topS 23) 9)) (defScope (inClass (topS 23) 9)) .none kVbio dcbio pmbio anbio cdbio ctbio), slbio⟩)
    (cbio : PySem.W.codeIn K cdbio "Book.__ior__" = true)
    (kbio : PySem.W.keepIn K (.ref fbio) = true)
    (mdin : PySem.W.findIn K (.ref CD) "__init__" = some (some (.ref fdin)))
    (idin : PySem.W.isFn K (.ref fdin) = true)
    (ldin : K.lookup fdin = some ⟨ocdin, oddin, .func (PySem.W.fnOf "__init__" "Definition.__init__" (defArgs (inClass (topS 22) 0)) (defBody (inClass (topS 22) 0)) (defScope (inClass (topS 22) 0)) .none kVdin dcdin pmdin andin cddin ctdin), sldin⟩)
    (cdin : PySem.W.codeIn K cddin "Definition.__init__" = true)
    (kdin : PySem.W.keepIn K (.ref fdin) = true)
    (gMd : PySem.W.nsIn K mainGlobals "MOST_DEFINITIONS" = some (some (.int iMd tMd)))
    (hMd : iMd = 12)
    (gMp : PySem.W.nsIn K mainGlobals "MOST_PARAMS" = some (some (.int iMp tMp)))
    (hMp : iMp = 4)
    (z_dict : PySem.W.nsIn K mainGlobals "dict" = some (none))
    (z_sorted : PySem.W.nsIn K mainGlobals "sorted" = some (none))
    (mdeq : PySem.W.findIn K (.ref CD) "__eq__" = some (some (.ref fdeq)))
    (ideq : PySem.W.isFn K (.ref fdeq) = true)
    (ldeq : K.lookup fdeq = some ⟨ocdeq, oddeq, .func (PySem.W.fnOf "__eq__" "Definition.__eq__" (defArgs (inClass (topS 22) 1)) (defBody (inClass (topS 22) 1)) (defScope (inClass (topS 22) 1)) .none kVdeq dcdeq pmdeq andeq cddeq ctdeq), sldeq⟩)
    (cdeq : PySem.W.codeIn K cddeq "Definition.__eq__" = true)
    (kdeq : PySem.W.keepIn K (.ref fdeq) = true)
    (aarenames : PySem.W.nsIn K mainGlobals "are_names" = some (some (.ref farenames)))
    (larenames : K.lookup farenames = some ⟨ocarenames, odarenames, .func (PySem.W.fnOf "are_names" "are_names" (defArgs (topS 9)) (defBody (topS 9)) (defScope (topS 9)) .none kVarenames dcarenames pmarenames anarenames cdarenames ctarenames), slarenames⟩)
    (carenames : PySem.W.codeIn K cdarenames "are_names" = true)
    (karenames : PySem.W.keepIn K (.ref farenames) = true)
    (alim : PySem.W.nsIn K mainGlobals "limited" = some (some (.ref flim)))
    (llim : K.lookup flim = some ⟨oclim, odlim, .func (PySem.W.fnOf "limited" "limited" (defArgs (topS 24)) (defBody (topS 24)) (defScope (topS 24)) .none kVlim dclim pmlim anlim cdlim ctlim), sllim⟩)
    (clim : PySem.W.codeIn K cdlim "limited" = true)
    (klim : PySem.W.keepIn K (.ref flim) = true)
    (auni : PySem.W.nsIn K mainGlobals "united" = some (some (.ref funi)))
    (luni : K.lookup funi = some ⟨ocuni, oduni, .func (PySem.W.fnOf "united" "united" (defArgs (topS 25)) (defBody (topS 25)) (defScope (topS 25)) .none kVuni dcuni pmuni anuni cduni ctuni), sluni⟩)
    (cuni : PySem.W.codeIn K cduni "united" = true)
    (kuni : PySem.W.keepIn K (.ref funi) = true)
    (acellat : PySem.W.nsIn K mainGlobals "_law_cell_at" = some (some (.ref fcellat)))
    (lcellat : K.lookup fcellat = some ⟨occellat, odcellat, .func (PySem.W.fnOf "_law_cell_at" "_law_cell_at" (defArgs (topS 42)) (defBody (topS 42)) (defScope (topS 42)) .none kVcellat dccellat pmcellat ancellat cdcellat ctcellat), slcellat⟩)
    (ccellat : PySem.W.codeIn K cdcellat "_law_cell_at" = true)
    (kcellat : PySem.W.keepIn K (.ref fcellat) = true)
    (amixed : PySem.W.nsIn K mainGlobals "_law_mixed" = some (some (.ref fmixed)))
    (lmixed : K.lookup fmixed = some ⟨ocmixed, odmixed, .func (PySem.W.fnOf "_law_mixed" "_law_mixed" (defArgs (topS 43)) (defBody (topS 43)) (defScope (topS 43)) .none kVmixed dcmixed pmmixed anmixed cdmixed ctmixed), slmixed⟩)
    (cmixed : PySem.W.codeIn K cdmixed "_law_mixed" = true)
    (kmixed : PySem.W.keepIn K (.ref fmixed) = true)
    (arow : PySem.W.nsIn K mainGlobals "_law_row" = some (some (.ref frow)))
    (lrow : K.lookup frow = some ⟨ocrow, odrow, .func (PySem.W.fnOf "_law_row" "_law_row" (defArgs (topS 44)) (defBody (topS 44)) (defScope (topS 44)) .none kVrow dcrow pmrow anrow cdrow ctrow), slrow⟩)
    (crow : PySem.W.codeIn K cdrow "_law_row" = true)
    (krow : PySem.W.keepIn K (.ref frow) = true)
    (adefn : PySem.W.nsIn K mainGlobals "_law_definition" = some (some (.ref fdefn)))
    (ldefn : K.lookup fdefn = some ⟨ocdefn, oddefn, .func (PySem.W.fnOf "_law_definition" "_law_definition" (defArgs (topS 45)) (defBody (topS 45)) (defScope (topS 45)) .none kVdefn dcdefn pmdefn andefn cddefn ctdefn), sldefn⟩)
    (cdefn : PySem.W.codeIn K cddefn "_law_definition" = true)
    (kdefn : PySem.W.keepIn K (.ref fdefn) = true)
    (arows : PySem.W.nsIn K mainGlobals "_law_rows" = some (some (.ref frows)))
    (lrows : K.lookup frows = some ⟨ocrows, odrows, .func (PySem.W.fnOf "_law_rows" "_law_rows" (defArgs (topS 46)) (defBody (topS 46)) (defScope (topS 46)) .none kVrows dcrows pmrows anrows cdrows ctrows), slrows⟩)
    (crows : PySem.W.codeIn K cdrows "_law_rows" = true)
    (krows : PySem.W.keepIn K (.ref frows) = true)
    (albk : PySem.W.nsIn K mainGlobals "_law_book" = some (some (.ref flbk)))
    (llbk : K.lookup flbk = some ⟨oclbk, odlbk, .func (PySem.W.fnOf "_law_book" "_law_book" (defArgs (topS 47)) (defBody (topS 47)) (defScope (topS 47)) .none kVlbk dclbk pmlbk anlbk cdlbk ctlbk), sllbk⟩)
    (clbk : PySem.W.codeIn K cdlbk "_law_book" = true)
    (klbk : PySem.W.keepIn K (.ref flbk) = true)
    (alis : PySem.W.nsIn K mainGlobals "_law_is" = some (some (.ref flis)))
    (llis : K.lookup flis = some ⟨oclis, odlis, .func (PySem.W.fnOf "_law_is" "_law_is" (defArgs (topS 48)) (defBody (topS 48)) (defScope (topS 48)) .none kVlis dclis pmlis anlis cdlis ctlis), sllis⟩)
    (clis : PySem.W.codeIn K cdlis "_law_is" = true)
    (klis : PySem.W.keepIn K (.ref flis) = true)
    (adue : PySem.W.nsIn K mainGlobals "_law_due" = some (some (.ref fdue)))
    (ldue : K.lookup fdue = some ⟨ocdue, oddue, .func (PySem.W.fnOf "_law_due" "_law_due" (defArgs (topS 49)) (defBody (topS 49)) (defScope (topS 49)) .none kVdue dcdue pmdue andue cddue ctdue), sldue⟩)
    (cdue : PySem.W.codeIn K cddue "_law_due" = true)
    (kdue : PySem.W.keepIn K (.ref fdue) = true)
    (aljo : PySem.W.nsIn K mainGlobals "_law_joined" = some (some (.ref fljo)))
    (lljo : K.lookup fljo = some ⟨ocljo, odljo, .func (PySem.W.fnOf "_law_joined" "_law_joined" (defArgs (topS 50)) (defBody (topS 50)) (defScope (topS 50)) .none kVljo dcljo pmljo anljo cdljo ctljo), slljo⟩)
    (cljo : PySem.W.codeIn K cdljo "_law_joined" = true)
    (kljo : PySem.W.keepIn K (.ref fljo) = true)
    (alex : PySem.W.nsIn K mainGlobals "_law_extended" = some (some (.ref flex)))
    (llex : K.lookup flex = some ⟨oclex, odlex, .func (PySem.W.fnOf "_law_extended" "_law_extended" (defArgs (topS 51)) (defBody (topS 51)) (defScope (topS 51)) .none kVlex dclex pmlex anlex cdlex ctlex), sllex⟩)
    (clex : PySem.W.codeIn K cdlex "_law_extended" = true)
    (klex : PySem.W.keepIn K (.ref flex) = true)
    (aleq : PySem.W.nsIn K mainGlobals "_law_equal" = some (some (.ref fleq)))
    (lleq : K.lookup fleq = some ⟨ocleq, odleq, .func (PySem.W.fnOf "_law_equal" "_law_equal" (defArgs (topS 52)) (defBody (topS 52)) (defScope (topS 52)) .none kVleq dcleq pmleq anleq cdleq ctleq), slleq⟩)
    (cleq : PySem.W.codeIn K cdleq "_law_equal" = true)
    (kleq : PySem.W.keepIn K (.ref fleq) = true)
    (atwo : PySem.W.nsIn K mainGlobals "_law_two" = some (some (.ref ftwo)))
    (ltwo : K.lookup ftwo = some ⟨octwo, odtwo, .func (PySem.W.fnOf "_law_two" "_law_two" (defArgs (topS 53)) (defBody (topS 53)) (defScope (topS 53)) .none kVtwo dctwo pmtwo antwo cdtwo cttwo), sltwo⟩)
    (ctwo : PySem.W.codeIn K cdtwo "_law_two" = true)
    (ktwo : PySem.W.keepIn K (.ref ftwo) = true)
    (alaw : PySem.W.nsIn K mainGlobals "law" = some (some (.ref flaw)))
    (llaw : K.lookup flaw = some ⟨oclaw, odlaw, .func (PySem.W.fnOf "law" "law" (defArgs (topS 54)) (defBody (topS 54)) (defScope (topS 54)) .none kVlaw dclaw pmlaw anlaw cdlaw ctlaw), sllaw⟩)
    (claw : PySem.W.codeIn K cdlaw "law" = true)
    (klaw : PySem.W.keepIn K (.ref flaw) = true)
    (fi : PySem.W.fnIn K fbget = true)
    (nqK : PySem.W.noSeq K CK = true)
    (opK : PySem.W.selfFirst K CK = true)
    (neD : PySem.W.findIn K (.ref CD) "__ne__" = some (some (.builtin "object.__ne__")))
    (obD : PySem.W.subIn K (.ref CD) (.type "object") = some true)
    (eKC : (Value.ref CK == Value.ref C) = false)
    (eKD : (Value.ref CK == Value.ref CD) = false)
    (sBN : PySem.W.subIn K (.ref CB) (.ref C2) = some false)
    (z_abs : PySem.W.nsIn K mainGlobals "abs" = some (none))
    (z_range : PySem.W.nsIn K mainGlobals "range" = some (none))
    (z_set : PySem.W.nsIn K mainGlobals "set" = some (none))
    (z_min : PySem.W.nsIn K mainGlobals "min" = some (none)) :
    ∃ fd : FuncData, (∀ (s : Shared) (v : Value), BindsTo s fd ⟨[v], []⟩ [("_law_script", v)]) ∧ ∀ base : Heap, K.In base → base.Ns mainGlobals mg → FnOk P w K mg base CX0 12 fa fd ["_law_script"] (spLaw K) := by
  have e := hfa.symm.trans (PySem.W.mg_of X G alaw)
  cases e
  subst hL hD hN hT hM hDe hSi hOp hMd hMp
  have TB : ErrTxt P K mg "BadTerm" CB fB := { gC := PySem.W.mg_of X G aB, cls := ⟨nmB, qB, NB, bsB, _, snB, subB, abB, colB, ddB, m0, m1, m2, m3, m5, xB, rfl⟩, ei := eiB, sa := saB, noN := noB, iC := iB, tC := tB, kC := kB, exC := exB, veC := veB, tyC := tyB, slf := mroB, sup := spB, opq := opq, gs := PySem.W.mg_none_of X G z_super, top := topB, fn := ⟨ocB, odB, anB, kVB, dcB, pmB, ctB, slB, _, cda, cc, ccl, clB, cdd, cld, ccs, csl, vsB, fileB, tfB, zM, b1, b2, q0, r0, r1, r2, r3, r4, r5, r6, r7, r8, lB, cB, oB, vB, fB1, ceB, zMB, lnB⟩ }
  have T2 : FsBname.ErrTxt P K mg "Clash" C2 fI2 := { gC := PySem.W.mg_of X G gn2, cls := ⟨nm2, q2, N2, bs2, _, sn2, sub2, ab2, col2, dd2, m2_0, m2_1, m2_2, m2_3, m2_5, x2, rfl⟩, ei := ei2, sa := sa2, noN := no2, iC := iB2, tC := tB2, kC := kp2, exC := ex2, veC := ve2, tyC := ty2, slf := mr2, sup := sp2, opq := opq, gs := PySem.W.mg_none_of X G z_super, top := topB, fn := ⟨ocB2, odB2, anB2, kVB2, dcB2, pmB2, ctB2, slB2, _, cda2, cc2, ccl2, clB2, cdd2, cld2, ccs2, csl2, vsB2, fileB2, tfB2, zM2, b2_1, b2_2, q2_0, r2_0, r2_1, r2_2, r2_3, r2_4, r2_5, r2_6, r2_7, r2_8, lB2, cB2, oB2, vB2, fB2, ce2, zM2l, ln2⟩ }
  have T3 : FsBname.ErrTxt P K mg "NoName" C3 fI3 := { gC := PySem.W.mg_of X G gn3, cls := ⟨nm3, q3, N3, bs3, _, sn3, sub3, ab3, col3, dd3, m3_0, m3_1, m3_2, m3_3, m3_5, x3, rfl⟩, ei := ei3, sa := sa3, noN := no3, iC := iB3, tC := tB3, kC := kp3, exC := ex3, veC := ve3, tyC := ty3, slf := mr3, sup := sp3, opq := opq, gs := PySem.W.mg_none_of X G z_super, top := topB, fn := ⟨ocB3, odB3, anB3, kVB3, dcB3, pmB3, ctB3, slB3, _, cda3, cc3, ccl3, clB3, cdd3, cld3, ccs3, csl3, vsB3, fileB3, tfB3, zM3, b3_1, b3_2, q3_0, r3_0, r3_1, r3_2, r3_3, r3_4, r3_5, r3_6, r3_7, r3_8, lB3, cB3, oB3, vB3, fB3, ce3, zM3l, ln3⟩ }
  have B : BasT K mg := { letters := ⟨_, PySem.W.mg_of X G gL, _, rfl⟩, digits := ⟨_, PySem.W.mg_of X G gD, _, rfl⟩, nlen := ⟨_, PySem.W.mg_of X G gN, _, rfl⟩, reserved := ⟨aR, PySem.W.mg_of X G gR, fun H => .inr ⟨_, _, _, lR, rfl, rfl, by rw [sizeLine_eq]; omega, hR⟩⟩, toolong := ⟨_, PySem.W.mg_of X G gT, _, rfl⟩, seats := ⟨_, PySem.W.mg_of X G gM, _, rfl⟩, isinst := PySem.W.mg_none_of X G z_isinstance, str := PySem.W.mg_none_of X G z_str, int := PySem.W.mg_none_of X G z_int, bool := PySem.W.mg_none_of X G z_bool, len := PySem.W.mg_none_of X G z_len, all := PySem.W.mg_none_of X G z_all }
  have T : TerT K mg C CB := { cl := ⟨pg, hd, po, sa⟩, nK := n_kind, nP := n_parts, nD := n_depth, nS := n_size, mgC := PySem.W.mg_of X G aC, kStr := kit_no ic ty no_str, kInt := kit_no ic ty no_int, kTup := kit_no ic ty no_tuple, ha := ha, hn := hn, htk := ht, hm := hm, sum := PySem.W.mg_none_of X G z_sum, max := PySem.W.mg_none_of X G z_max, tuple := PySem.W.mg_none_of X G z_tuple, depth := ⟨_, PySem.W.mg_of X G gDe, _, rfl⟩, size := ⟨_, PySem.W.mg_of X G gSi, _, rfl⟩ }
  have Finit := fun_mk (st := (inClass (topS 36) 0)) linit cinit kinit
  have Binit := Finit.binds (ps := ["self", "kind", "parts"]) fun _ _ _ _ _ _ us hl => match us, hl with | [_, _, _], _ => rfl
  have Fisname := fun_mk (st := (topS 8)) lisname cisname kisname
  have Bisname := Fisname.binds (ps := ["text"]) fun _ _ _ _ _ _ us hl => match us, hl with | [_], _ => rfl
  have Fisint := fun_mk (st := (topS 10)) lisint cisint kisint
  have Bisint := Fisint.binds (ps := ["value"]) fun _ _ _ _ _ _ us hl => match us, hl with | [_], _ => rfl
  have Fisshort := fun_mk (st := (topS 11)) lisshort cisshort kisshort
  have Bisshort := Fisshort.binds (ps := ["value"]) fun _ _ _ _ _ _ us hl => match us, hl with | [_], _ => rfl
  have Fisop := fun_mk (st := (topS 12)) lisop cisop kisop
  have Bisop := Fisop.binds (ps := ["part"]) fun _ _ _ _ _ _ us hl => match us, hl with | [_], _ => rfl
  have Fdemand := fun_mk (st := (topS 32)) ldemand cdemand kdemand
  have Bdemand := Fdemand.binds (ps := ["allowed", "field"]) fun _ _ _ _ _ _ us hl => match us, hl with | [_, _], _ => rfl
  have Finner := fun_mk (st := (topS 33)) linner cinner kinner
  have Binner := Finner.binds (ps := ["kind", "parts"]) fun _ _ _ _ _ _ us hl => match us, hl with | [_, _], _ => rfl
  have Fsize := fun_mk (st := (topS 34)) lsize csize ksize
  have Bsize := Fsize.binds (ps := ["kind", "parts"]) fun _ _ _ _ _ _ us hl => match us, hl with | [_, _], _ => rfl
  have Fdepth := fun_mk (st := (topS 35)) ldepth cdepth kdepth
  have Bdepth := Fdepth.binds (ps := ["kind", "parts"]) fun _ _ _ _ _ _ us hl => match us, hl with | [_, _], _ => rfl
  have Fstcall := fun_mk (st := (inClass (topS 36) 5)) lstcall cstcall kstcall
  have Bstcall := Fstcall.binds (ps := ["name", "operands"]) fun _ _ _ _ _ _ us hl => match us, hl with | [_, _], _ => rfl
  have Fststop := fun_mk (st := (inClass (topS 36) 1)) lststop cststop kststop
  have Bststop := Fststop.binds (ps := []) fun _ _ _ _ _ _ us hl => match us, hl with | [], _ => rfl
  have Fpeq := fun_mk (st := (inClass (topS 36) 6)) lpeq cpeq kpeq
  have Bpeq := Fpeq.binds (ps := ["self", "other"]) fun _ _ _ _ _ _ us hl => match us, hl with | [_, _], _ => rfl
  have Fbin : FunD K "__init__" "Book.__init__" (defArgs (inClass (topS 23) 0)) (defBody (inClass (topS 23) 0)) (defScope (inClass (topS 23) 0)) [.ref aT0] [] fbin _ := ⟨⟨ocbin, odbin, .ref aTD, kVbin, dcbin, pmbin, anbin, cdbin, ctbin, slbin, rfl, lbin, cbin, .inr ⟨by simp, aTD, _, [.ref aT0], nTD, rfl, lkD, rfl, .cons rfl .nil⟩, .inl rfl⟩, kbin⟩
  have Fbset := fun_mk (st := (inClass (topS 23) 1)) lbset cbset kbset
  have Bbset := Fbset.binds (ps := ["self", "at", "worth"]) fun _ _ _ _ _ _ us hl => match us, hl with | [_, _, _], _ => rfl
  have Fbget := fun_mk (st := (inClass (topS 23) 2)) lbget cbget kbget
  have Bbget := Fbget.binds (ps := ["self", "at"]) fun _ _ _ _ _ _ us hl => match us, hl with | [_, _], _ => rfl
  have Fblen := fun_mk (st := (inClass (topS 23) 4)) lblen cblen kblen
  have Bblen := Fblen.binds (ps := ["self"]) fun _ _ _ _ _ _ us hl => match us, hl with | [_], _ => rfl
  have Fbnames := fun_mk (st := (inClass (topS 23) 7)) lbnames cbnames kbnames
  have Bbnames := Fbnames.binds (ps := ["self"]) fun _ _ _ _ _ _ us hl => match us, hl with | [_], _ => rfl
  have Fbeq := fun_mk (st := (inClass (topS 23) 6)) lbeq cbeq kbeq
  have Bbeq := Fbeq.binds (ps := ["self", "other"]) fun _ _ _ _ _ _ us hl => match us, hl with | [_, _], _ => rfl
  have Fbor := fun_mk (st := (inClass (topS 23) 8)) lbor cbor kbor
  have Bbor := Fbor.binds (ps := ["self", "other"]) fun _ _ _ _ _ _ us hl => match us, hl with | [_, _], _ => rfl
  have Fbio := fun_mk (st := (inClass (topS 23) 9)) lbio cbio kbio
  have Bbio := Fbio.binds (ps := ["self", "other"]) fun _ _ _ _ _ _ us hl => match us, hl with | [_, _], _ => rfl
  have Fdin := fun_mk (st := (inClass (topS 22) 0)) ldin cdin kdin
  have Bdin := Fdin.binds (ps := ["self", "params", "body"]) fun _ _ _ _ _ _ us hl => match us, hl with | [_, _, _], _ => rfl
  have TBk : BkT K mg CK CB := { cl := ⟨pgK, hdK, poK, saK⟩, nB := nK_by_name, mgK := PySem.W.mg_of X G aCK, dict := PySem.W.mg_none_of X G z_dict, len := PySem.W.mg_none_of X G z_len, sorted := PySem.W.mg_none_of X G z_sorted, most := ⟨_, PySem.W.mg_of X G gMd, _, rfl⟩ }
  have TDf : DfT K mg CD := { cl := ⟨pgD, hdD, poD, saD⟩, nP := nD_params, nB := nD_body, mgD := PySem.W.mg_of X G aCD, len := PySem.W.mg_none_of X G z_len, tuple := PySem.W.mg_none_of X G z_tuple, most := ⟨_, PySem.W.mg_of X G gMp, _, rfl⟩ }
  have Fdeq := fun_mk (st := (inClass (topS 22) 1)) ldeq cdeq kdeq
  have Bdeq := Fdeq.binds (ps := ["self", "other"]) fun _ _ _ _ _ _ us hl => match us, hl with | [_, _], _ => rfl
  have Farenames := fun_mk (st := (topS 9)) larenames carenames karenames
  have Barenames := Farenames.binds (ps := ["texts"]) fun _ _ _ _ _ _ us hl => match us, hl with | [_], _ => rfl
  have Flim := fun_mk (st := (topS 24)) llim clim klim
  have Blim := Flim.binds (ps := ["by_name"]) fun _ _ _ _ _ _ us hl => match us, hl with | [_], _ => rfl
  have Funi := fun_mk (st := (topS 25)) luni cuni kuni
  have Buni := Funi.binds (ps := ["one", "other"]) fun _ _ _ _ _ _ us hl => match us, hl with | [_, _], _ => rfl
  have Fcellat := fun_mk (st := (topS 42)) lcellat ccellat kcellat
  have Bcellat := Fcellat.binds (ps := ["_law_script", "_law_k"]) fun _ _ _ _ _ _ us hl => match us, hl with | [_, _], _ => rfl
  have Fmixed := fun_mk (st := (topS 43)) lmixed cmixed kmixed
  have Bmixed := Fmixed.binds (ps := ["_law_cell", "_law_k"]) fun _ _ _ _ _ _ us hl => match us, hl with | [_, _], _ => rfl
  have Frow := fun_mk (st := (topS 44)) lrow crow krow
  have Brow := Frow.binds (ps := ["_law_cell", "_law_many"]) fun _ _ _ _ _ _ us hl => match us, hl with | [_, _], _ => rfl
  have Fdefn := fun_mk (st := (topS 45)) ldefn cdefn kdefn
  have Bdefn := Fdefn.binds (ps := ["_law_mark"]) fun _ _ _ _ _ _ us hl => match us, hl with | [_], _ => rfl
  have Frows := fun_mk (st := (topS 46)) lrows crows krows
  have Brows := Frows.binds (ps := ["_law_row_here"]) fun _ _ _ _ _ _ us hl => match us, hl with | [_], _ => rfl
  have Flbk := fun_mk (st := (topS 47)) llbk clbk klbk
  have Blbk := Flbk.binds (ps := ["_law_rows_here"]) fun _ _ _ _ _ _ us hl => match us, hl with | [_], _ => rfl
  have Flis := fun_mk (st := (topS 48)) llis clis klis
  have Blis := Flis.binds (ps := ["_law_book_here", "_law_rows_here"]) fun _ _ _ _ _ _ us hl => match us, hl with | [_, _], _ => rfl
  have Fdue := fun_mk (st := (topS 49)) ldue cdue kdue
  have Bdue := Fdue.binds (ps := ["_law_one", "_law_two_here"]) fun _ _ _ _ _ _ us hl => match us, hl with | [_, _], _ => rfl
  have Fljo := fun_mk (st := (topS 50)) lljo cljo kljo
  have Bljo := Fljo.binds (ps := ["_law_one", "_law_two_here"]) fun _ _ _ _ _ _ us hl => match us, hl with | [_, _], _ => rfl
  have Flex := fun_mk (st := (topS 51)) llex clex klex
  have Blex := Flex.binds (ps := ["_law_one", "_law_two_here"]) fun _ _ _ _ _ _ us hl => match us, hl with | [_, _], _ => rfl
  have Fleq := fun_mk (st := (topS 52)) lleq cleq kleq
  have Bleq := Fleq.binds (ps := ["_law_one", "_law_two_here"]) fun _ _ _ _ _ _ us hl => match us, hl with | [_, _], _ => rfl
  have Ftwo := fun_mk (st := (topS 53)) ltwo ctwo ktwo
  have Btwo := Ftwo.binds (ps := ["_law_one", "_law_two_here"]) fun _ _ _ _ _ _ us hl => match us, hl with | [_, _], _ => rfl
  have Flaw := fun_mk (st := (topS 54)) llaw claw klaw
  have Blaw := Flaw.binds (ps := ["_law_script"]) fun _ _ _ _ _ _ us hl => match us, hl with | [_], _ => rfl
  have E1 : ErrT K mg CB C2 := { gB := PySem.W.mg_of X G aB, gN := PySem.W.mg_of X G gn2, xB := ⟨gaB, ggB, exB, hdB⟩, xN := ⟨ga2, gg2, ex2, hd2⟩, nB := noB, nN := no2, tB := exm_own exB icB tyB sbB, tN := exm_own ex2 ic2 ty2 sb2, tX := exm_b ex2 ic2 ty2 sBN }
  refine ⟨PySem.W.fnOf "law" "law" (defArgs (topS 54)) (defBody (topS 54)) (defScope (topS 54)) .none kVlaw dclaw pmlaw anlaw cdlaw ctlaw, fun s v => .of_eq rfl, fun base _ _ => ?_⟩
  have Gisname : CalX P w K mg base CX0 1 "is_name" (spPred nameV) := ⟨_, _, _, ok_is_name Fisname B, PySem.W.mg_of X G aisname, kisname, Bisname⟩
  have Gisint : CalX P w K mg base CX0 1 "is_int" (spPred intV) := ⟨_, _, _, ok_is_int Fisint B, PySem.W.mg_of X G aisint, kisint, Bisint⟩
  have Gisshort : CalX P w K mg base CX0 2 "is_short" (spPred shortV) := ⟨_, _, _, ok_is_short Fisshort B Gisint, PySem.W.mg_of X G aisshort, kisshort, Bisshort⟩
  have Gisop : CalX P w K mg base CX0 3 "is_operand" (spPred operandV) := ⟨_, _, _, ok_is_operand Fisop Gisshort Gisname, PySem.W.mg_of X G aisop, kisop, Bisop⟩
  have Ginner : CalX P w K mg base CX0 1 "inner_processes" (spInner C) := ⟨_, _, _, ok_inner Finner B T, PySem.W.mg_of X G ainner, kinner, Binner⟩
  have Gdepth : CalX P w K mg base CX0 2 "depth_of" (spSize C Pr.depth) := ⟨_, _, _, ok_depth Fdepth T Ginner, PySem.W.mg_of X G adepth, kdepth, Bdepth⟩
  have Gsize : CalX P w K mg base CX0 2 "size_of" (spSize C Pr.size) := ⟨_, _, _, ok_size Fsize B T Ginner, PySem.W.mg_of X G asize, ksize, Bsize⟩
  have OD : FnOk P w K mg base (L2.CX P w) 2 fdemand _ ["allowed", "field"] (spDemand CB) := ok_demand Fdemand (raises_bt (k := 1) (by decide) TB)
  have G2d : CalX P w K mg base (L2.CX P w) 2 "demand" (spDemand CB) := ⟨_, _, _, OD, PySem.W.mg_of X G ademand, kdemand, Bdemand⟩
  have G3d : CalX P w K mg base (L2.CX P w) 3 "demand" (spDemand CB) := ⟨_, _, _, OD.mono (by decide), PySem.W.mg_of X G ademand, kdemand, Bdemand⟩
  have GM : MakX P w K mg base (L2.CX P w) 3 "Process" C (spInit C CB) := ⟨_, _, _, ⟨mk, minit, iinit, kc⟩, ok_init Finit T Gdepth Gsize G2d (Nat.le_refl _), PySem.W.mg_of X G aC, Binit⟩
  have L : LawT K mg := { len := PySem.W.mg_none_of X G z_len, int := PySem.W.mg_none_of X G z_int, abs := PySem.W.mg_none_of X G z_abs, range := PySem.W.mg_none_of X G z_range }
  have Gcellat : CalX P w K mg base CX0 1 "_law_cell_at" (spCellAt K) := ⟨_, _, _, ok_cell_at Fcellat L, PySem.W.mg_of X G acellat, kcellat, Bcellat⟩
  have Gmixed : CalX P w K mg base CX0 1 "_law_mixed" spMixed := ⟨_, _, _, ok_mixed Fmixed L, PySem.W.mg_of X G amixed, kmixed, Bmixed⟩
  have Grow : CalX P w K mg base CX0 2 "_law_row" spRow := ⟨_, _, _, ok_row Frow L Gmixed, PySem.W.mg_of X G arow, krow, Brow⟩
  have Garenames : CalX P w K mg base CX0 2 "are_names" spNames := ⟨_, _, _, ok_are_names Farenames B (PySem.W.mg_none_of X G z_set) Gisname, PySem.W.mg_of X G aarenames, karenames, Barenames⟩
  have M : MakT P w K mg base C CB 3 := { make := GM, dem := G3d, name := Gisname, operand := Gisop, mops := ⟨_, PySem.W.mg_of X G gOp, _, rfl⟩, tuple := PySem.W.mg_none_of X G z_tuple, len := PySem.W.mg_none_of X G z_len, all := PySem.W.mg_none_of X G z_all, hk := Nat.le_refl _ }
  have Scall : StaX P w K mg base (L2.CX P w) 5 C "call" (spCall K C CB) := ⟨_, _, _, _, _, ⟨rdC, gaC⟩, ⟨scall, ⟨_, rcall⟩, kstcall⟩, ok_call Fstcall M, Bstcall⟩
  have Sstop : StaX P w K mg base (L2.CX P w) 5 C "stop" (spStop C CB) := ⟨_, _, _, _, _, ⟨rdC, gaC⟩, ⟨sstop, ⟨_, rstop⟩, kststop⟩, ok_stop Fststop M, Bststop⟩
  have PE1 := ok_eqB (P := P) (w := w) (base := base) Fpeq (PySem.W.mg_none_of X G z_isinstance) T mpeq ipeq Bpeq 1
  have ID : IsT K CD := ⟨⟨pgD, hdD, poD, saD⟩, haD, hn, ht, hmD⟩
  have IK : IsT K CK := ⟨⟨pgK, hdK, poK, saK⟩, haK, hn, ht, hmK⟩
  have DE := ok_dfeq (d := 1) (n := 5) (by decide) Fdeq (PySem.W.mg_none_of X G z_isinstance) TDf ID PE1 mpeq ipeq Bpeq
  have NM : NeM K CD fdeq := { at_ := mdeq, fn := ideq, ne := neD, ob := obD }
  have Glim : CalX P w K mg base (L2.CX P w) 2 "limited" (spLim CB) := ⟨_, _, _, ok_lim (k := 1) Flim TBk (raises_bt (k := 1) (by decide) TB), PySem.W.mg_of X G alim, klim, Blim⟩
  have Glim7 : CalX P w K mg base (L2.CX P w) 7 "limited" (spLim CB) := ⟨_, _, _, (ok_lim (k := 1) Flim TBk (raises_bt (k := 1) (by decide) TB)).mono (by decide), PySem.W.mg_of X G alim, klim, Blim⟩
  have Guni : CalX P w K mg base (L2.CX P w) 8 "united" (spUni CB C2 CD C) := ⟨_, _, _, ok_uni (n := 6) (k := 7) (by decide) Funi (PySem.W.mg_none_of X G z_min) NM DE Bdeq Glim7 (raises_nm (k := 7) (by decide) T2), PySem.W.mg_of X G auni, kuni, Buni⟩
  have OS := ok_bkset (k := 2) (by decide) Fbset TBk Gisname Glim (raises_bt (k := 2) (by decide) TB)
  have OG := ok_bkget (P := P) (w := w) (base := base) (k := 1) Fbget TBk (raises_nm (k := 1) (by decide) T3)
  have IX : IxM K CK fbget := ⟨mbget, ibget, fi⟩
  have SM : StM K CK fbset := ⟨mbset, ibset, nqK⟩
  have LM : LenM K CK fblen := ⟨mblen, iblen⟩
  have MN : Meth K CK "names" fbnames := ⟨mbnames, ibnames, kbnames⟩
  have ON := ok_bknames (P := P) (w := w) (base := base) Fbnames TBk
  have nKC : CK ≠ C := fun z => by rw [z] at eKC; simp at eKC
  have nKD : CK ≠ CD := fun z => by rw [z] at eKD; simp at eKD
  have OI : FnOk P w K mg base CX0 1 fbin _ ["self", "given"] (spBkInit K CK) := ok_bkinit Fbin TBk
  have MB : MkB P w K mg base CK aT0 := ⟨⟨_, _, ⟨mkK, mbin, ibin, kcK⟩, OI, PySem.W.mg_of X G aCK, binds_bk Fbin⟩, ⟨_, _, lk0, rfl, rfl, rfl⟩⟩
  have MB2 : MakX P w K mg base CX0 1 "Book" CK (spBkInit K CK) := ⟨_, _, _, ⟨mkK, mbin, ibin, kcK⟩, OI, PySem.W.mg_of X G aCK, binds_bk2 Fbin⟩
  have MD : MakX P w K mg base CX0 3 "Definition" CD (spDfInit CD) := ⟨_, _, _, ⟨mkD, mdin, idin, kcD⟩, ok_dfinit Fdin TDf Garenames, PySem.W.mg_of X G aCD, Bdin⟩
  have ed1 : PySem.dunder Operator.BitOr.info.2 = "__or__" := by decide +kernel
  have ei1 : dunderI Operator.BitOr.info.2 = "__ior__" := by decide +kernel
  have OM : OpM K CK .BitOr fbor := ⟨opK, by rw [ed1]; exact mbor, ibor⟩
  have IM : InM K CK .BitOr fbio := ⟨opK, by rw [ei1]; exact mbio, ibio⟩
  have OB := ok_bkor (k := 8) (by decide) Fbor (PySem.W.mg_none_of X G z_isinstance) TBk IK MB2 Guni
  have OIo := ok_bkior (k := 8) nKC nKD Fbio (PySem.W.mg_none_of X G z_isinstance) TBk IK Guni
  have BE := ok_bkeq (n := 6) Fbeq (PySem.W.mg_none_of X G z_isinstance) TBk IK DE mdeq ideq Bdeq
  have OD2 := ok_defn (k := 5) (by decide) Fdefn T MD Scall
  have Gdefn : CalX P w K mg base CX0 6 "_law_definition" (spDefn CD C) := ⟨_, _, _, OD2, PySem.W.mg_of X G adefn, kdefn, Bdefn⟩
  have GdefnT : CalX P w K mg base CX0 10 "_law_definition" (spDefn CD C) := ⟨_, _, _, OD2.mono (by decide), PySem.W.mg_of X G adefn, kdefn, Bdefn⟩
  have Grows : CalX P w K mg base CX0 1 "_law_rows" spRowsB := ⟨_, _, _, ok_rowsB Frows L, PySem.W.mg_of X G arows, krows, Brows⟩
  have OL := ok_lbook (k := 6) (by decide) nKC nKD Flbk L MB SM (OS.mono (by decide)) Bbset Gdefn
  have OIs := ok_lis (k := 6) (kg := 2) (by decide) (by decide) Flis L (PySem.W.mg_none_of X G z_sorted) T TDf TBk LM (ok_bklen Fblen TBk) Bblen MN ON Bbnames IX OG Bbget Gdefn
  have Glbk10 : CalX P w K mg base CX0 10 "_law_book" (spLBook CK CD C) := ⟨_, _, _, OL.mono (by decide), PySem.W.mg_of X G albk, klbk, Blbk⟩
  have Glis10 : CalX P w K mg base CX0 10 "_law_is" (spLIs CK CD C) := ⟨_, _, _, OIs.mono (by decide), PySem.W.mg_of X G alis, klis, Blis⟩
  have Glex10 : CalX P w K mg base CX0 10 "_law_extended" (spExtB CK CD C) := ⟨_, _, _, (ok_extB (k := 9) Flex E1 IM OIo Bbio).mono (by decide), PySem.W.mg_of X G alex, klex, Blex⟩
  have Glbk11 : CalX P w K mg base CX0 11 "_law_book" (spLBook CK CD C) := ⟨_, _, _, OL.mono (by decide), PySem.W.mg_of X G albk, klbk, Blbk⟩
  have Glis11 : CalX P w K mg base CX0 11 "_law_is" (spLIs CK CD C) := ⟨_, _, _, OIs.mono (by decide), PySem.W.mg_of X G alis, klis, Blis⟩
  have Glex11 : CalX P w K mg base CX0 11 "_law_extended" (spExtB CK CD C) := ⟨_, _, _, (ok_extB (k := 9) Flex E1 IM OIo Bbio).mono (by decide), PySem.W.mg_of X G alex, klex, Blex⟩
  have Gdue : CalX P w K mg base CX0 10 "_law_due" spDueB := ⟨_, _, _, (ok_dueB Fdue L (PySem.W.mg_none_of X G z_min)).mono (by decide), PySem.W.mg_of X G adue, kdue, Bdue⟩
  have Gljo : CalX P w K mg base CX0 10 "_law_joined" (spJo CK CD C) := ⟨_, _, _, ok_jo (k := 9) Fljo E1 OM OB Bbor, PySem.W.mg_of X G aljo, kljo, Bljo⟩
  have Gleq : CalX P w K mg base CX0 10 "_law_equal" spLEq := ⟨_, _, _, (ok_leq Fleq L (PySem.W.mg_none_of X G z_sorted) (PySem.W.mg_none_of X G z_all)).mono (by decide), PySem.W.mg_of X G aleq, kleq, Bleq⟩
  have Gtwo : CalX P w K mg base CX0 11 "_law_two" spTwo := ⟨_, _, _, ok_two (k := 10) nKC nKD Ftwo L Glbk10 Gdue Gljo Glis10 Gleq Glex10 GdefnT ⟨mbeq, ibeq⟩ (BE.mono (by decide)) Bbeq SM (OS.mono (by decide)) Bbset, PySem.W.mg_of X G atwo, ktwo, Btwo⟩
  exact ok_law (k := 11) (by decide) nKC nKD Flaw L T TDf Gcellat Grow Grows Gtwo MD Sstop NM (by decide) DE Bdeq Glbk11 Glex11 Glis11 ⟨mbeq, ibeq⟩ (BE.mono (by decide)) Bbeq (by decide)
theorem walk {l : PySem.W.OpenLaw} {q : Program} {loose : List Str} {XP : (Str → Option Value) → Heap → Prop} {YP : World → Heap → Prop} {d : DefRec} {K : Params → PySem.W.Frag} (hn : l.most = some 63) (hdf : d.params.defaults = [])
    (hY : ∀ (w : World) (h : Heap), YP w h → (K w.params).In h)
    (hF : ∀ (w : World) (mg : Str → Option Value) (fa : Addr) (h : Heap), (K w.params).In h → h.Ns mainGlobals mg → mg d.name = some (.ref fa) →
      ∃ fd : FuncData, (∀ (s : Shared) (u : Value), BindsTo s fd ⟨[u], []⟩ [("_law_script", u)]) ∧ ∀ base : Heap, (K w.params).In base → base.Ns mainGlobals mg → FnOk l.prog w (K w.params) mg base CX0 12 fa fd ["_law_script"] (spLaw (K w.params))) :
    PySem.W.WalkO q loose XP YP l.row.toRowW d [] (fun f vs => PySem.call f vs) :=
  L2.walk_of (n := 63) (k := 12) (x := "_law_script") (CX := fun _ => CX0) (sp := fun w => spLaw (K w.params)) hn (by decide) hdf ⟨rfl, by decide, by decide⟩ hY hF (fun _ _ a ns _ _ hS => ⟨a, ns, rfl, hS, fun _ => rfl⟩) fun _ _ _ _ _ z => z
end Fs

open PySem PySem.W PyProof.Rows
set_option Elab.async false
set_option maxRecDepth 100000 in
set_option maxHeartbeats 0 in
theorem PySem.Challenge.cw_fullseats_k08_books_joined_holds : PySem.Challenge.rw_fullseats_k08_books_joined.Holds := by
  w_on; o_law; k_head; (case hw => w_witness2)
  k_fill
  refine Fs.walk (l := PySem.Challenge.rw_fullseats_k08_books_joined) rfl rfl (fun w h Y => PySem.W.kIn_of Y) ?F
  case F =>
    intro w mg fa h KX G hmg
    refine' Fs.all_mk KX G hmg ?aB ?xB ?eiB ?saB ?noB ?iB ?tB ?kB ?exB ?veB ?tyB ?mroB ?spB ?opq ?lB ?cB ?oB ?vB ?fB1 ?ceB ?lnB ?zMB ?topB ?gaB ?ggB ?hdB ?icB ?sbB ?z_super ?gn2 ?x2 ?ga2 ?gg2 ?sa2 ?no2 ?iB2 ?ex2 ?ve2 ?hd2 ?ty2 ?kp2 ?ic2 ?sb2 ?ei2 ?tB2 ?mr2 ?sp2 ?lB2 ?cB2 ?oB2 ?vB2 ?fB2 ?ce2 ?ln2 ?zM2l ?gn3 ?x3 ?ga3 ?gg3 ?sa3 ?no3 ?iB3 ?ex3 ?ve3 ?hd3 ?ty3 ?kp3 ?ic3 ?sb3 ?ei3 ?tB3 ?mr3 ?sp3 ?lB3 ?cB3 ?oB3 ?vB3 ?fB3 ?ce3 ?ln3 ?zM3l ?gL ?hL ?gD ?hD ?gN ?hN ?gT ?hT ?gM ?hM ?gDe ?hDe ?gSi ?hSi ?gR ?lR ?sR ?hR ?z_isinstance ?z_str ?z_int ?z_bool ?z_len ?z_all ?aC ?pg ?hd ?po ?sa ?n_kind ?n_parts ?n_depth ?n_size ?mk ?kc ?ha ?hn ?ht ?hm ?ic ?ty ?no_str ?no_int ?no_tuple ?z_sum ?z_max ?z_tuple ?minit ?iinit ?linit ?cinit ?kinit ?aisname ?lisname ?cisname ?kisname ?aisint ?lisint ?cisint ?kisint ?aisshort ?lisshort ?cisshort ?kisshort ?aisop ?lisop ?cisop ?kisop ?ademand ?ldemand ?cdemand ?kdemand ?ainner ?linner ?cinner ?kinner ?asize ?lsize ?csize ?ksize ?adepth ?ldepth ?cdepth ?kdepth ?gOp ?hOp ?rdC ?gaC ?scall ?rcall ?lstcall ?cstcall ?kstcall ?sstop ?rstop ?lststop ?cststop ?kststop ?mpeq ?ipeq ?lpeq ?cpeq ?kpeq ?aCK ?pgK ?hdK ?poK ?saK ?nK_by_name ?mkK ?kcK ?haK ?hmK ?icK ?tyK ?aCD ?pgD ?hdD ?poD ?saD ?nD_params ?nD_body ?mkD ?kcD ?haD ?hmD ?icD ?tyD ?mbin ?ibin ?lbin ?cbin ?kbin ?lkD ?lk0 ?mbset ?ibset ?lbset ?cbset ?kbset ?mbget ?ibget ?lbget ?cbget ?kbget ?mblen ?iblen ?lblen ?cblen ?kblen ?mbnames ?ibnames ?lbnames ?cbnames ?kbnames ?mbeq ?ibeq ?lbeq ?cbeq ?kbeq ?mbor ?ibor ?lbor ?cbor ?kbor ?mbio ?ibio ?lbio ?cbio ?kbio ?mdin ?idin ?ldin ?cdin ?kdin ?gMd ?hMd ?gMp ?hMp ?z_dict ?z_sorted ?mdeq ?ideq ?ldeq ?cdeq ?kdeq ?aarenames ?larenames ?carenames ?karenames ?alim ?llim ?clim ?klim ?auni ?luni ?cuni ?kuni ?acellat ?lcellat ?ccellat ?kcellat ?amixed ?lmixed ?cmixed ?kmixed ?arow ?lrow ?crow ?krow ?adefn ?ldefn ?cdefn ?kdefn ?arows ?lrows ?crows ?krows ?albk ?llbk ?clbk ?klbk ?alis ?llis ?clis ?klis ?adue ?ldue ?cdue ?kdue ?aljo ?lljo ?cljo ?kljo ?alex ?llex ?clex ?klex ?aleq ?lleq ?cleq ?kleq ?atwo ?ltwo ?ctwo ?ktwo ?alaw ?llaw ?claw ?klaw ?fi ?nqK ?opK ?neD ?obD ?eKC ?eKD ?sBN ?z_abs ?z_range ?z_set ?z_min
    (case aB => k_is)
    (case xB => k_is)
    (case eiB => kx_is)
    (case saB => k_is)
    (case noB => k_is)
    (case iB => k_is)
    (case tB => k_is)
    (case kB => k_is)
    (case exB => k_is)
    (case veB => k_is)
    (case tyB => k_is)
    (case mroB => k_is)
    (case spB => ks_is)
    (case opq => k_is)
    (case lB => k_is)
    (case cB => k_is)
    (case oB => k_is)
    (case vB => rfl)
    (case fB1 => decide +kernel)
    (case ceB => k_is)
    (case lnB => decide +kernel)
    (case zMB => decide +kernel)
    (case topB => decide +kernel)
    (case gaB => k_is)
    (case ggB => k_is)
    (case hdB => k_is)
    (case icB => k_is)
    (case sbB => first | rfl | k_is)
    (case z_super => k_is)
    (case gn2 => k_is)
    (case x2 => k_is)
    (case ga2 => k_is)
    (case gg2 => k_is)
    (case sa2 => k_is)
    (case no2 => k_is)
    (case iB2 => k_is)
    (case ex2 => k_is)
    (case ve2 => k_is)
    (case hd2 => k_is)
    (case ty2 => k_is)
    (case kp2 => k_is)
    (case ic2 => k_is)
    (case sb2 => first | rfl | k_is)
    (case ei2 => kx_is)
    (case tB2 => k_is)
    (case mr2 => k_is)
    (case sp2 => ks_is)
    (case lB2 => k_is)
    (case cB2 => k_is)
    (case oB2 => k_is)
    (case vB2 => rfl)
    (case fB2 => decide +kernel)
    (case ce2 => k_is)
    (case ln2 => decide +kernel)
    (case zM2l => decide +kernel)
    (case gn3 => k_is)
    (case x3 => k_is)
    (case ga3 => k_is)
    (case gg3 => k_is)
    (case sa3 => k_is)
    (case no3 => k_is)
    (case iB3 => k_is)
    (case ex3 => k_is)
    (case ve3 => k_is)
    (case hd3 => k_is)
    (case ty3 => k_is)
    (case kp3 => k_is)
    (case ic3 => k_is)
    (case sb3 => first | rfl | k_is)
    (case ei3 => kx_is)
    (case tB3 => k_is)
    (case mr3 => k_is)
    (case sp3 => ks_is)
    (case lB3 => k_is)
    (case cB3 => k_is)
    (case oB3 => k_is)
    (case vB3 => rfl)
    (case fB3 => decide +kernel)
    (case ce3 => k_is)
    (case ln3 => decide +kernel)
    (case zM3l => decide +kernel)
    (case gL => k_is)
    (case hL => decide +kernel)
    (case gD => k_is)
    (case hD => decide +kernel)
    (case gN => k_is)
    (case hN => decide +kernel)
    (case gT => k_is)
    (case hT => decide +kernel)
    (case gM => k_is)
    (case hM => decide +kernel)
    (case gDe => k_is)
    (case hDe => decide +kernel)
    (case gSi => k_is)
    (case hSi => decide +kernel)
    (case gR => k_is)
    (case lR => k_is)
    (case sR => decide +kernel)
    (case hR => exact .cons ⟨_, rfl⟩ (.cons ⟨_, rfl⟩ (.cons ⟨_, rfl⟩ (.cons ⟨_, rfl⟩ (.cons ⟨_, rfl⟩ (.cons ⟨_, rfl⟩ (.cons ⟨_, rfl⟩ (.cons ⟨_, rfl⟩ (.cons ⟨_, rfl⟩ (.cons ⟨_, rfl⟩ (.cons ⟨_, rfl⟩ .nil)))))))))))
    (case z_isinstance => k_is)
    (case z_str => k_is)
    (case z_int => k_is)
    (case z_bool => k_is)
    (case z_len => k_is)
    (case z_all => k_is)
    (case aC => k_is)
    (case pg => k_is)
    (case hd => k_is)
    (case po => k_is)
    (case sa => k_is)
    (case n_kind => k_is)
    (case n_parts => k_is)
    (case n_depth => k_is)
    (case n_size => k_is)
    (case mk => k_is)
    (case kc => k_is)
    (case ha => k_is)
    (case hn => k_is)
    (case ht => k_is)
    (case hm => k_is)
    (case ic => k_is)
    (case ty => k_is)
    (case no_str => k_is)
    (case no_int => k_is)
    (case no_tuple => k_is)
    (case z_sum => k_is)
    (case z_max => k_is)
    (case z_tuple => k_is)
    (case minit => k_is)
    (case iinit => k_is)
    (case linit => k_is)
    (case cinit => k_is)
    (case kinit => k_is)
    (case aisname => k_is)
    (case lisname => k_is)
    (case cisname => k_is)
    (case kisname => k_is)
    (case aisint => k_is)
    (case lisint => k_is)
    (case cisint => k_is)
    (case kisint => k_is)
    (case aisshort => k_is)
    (case lisshort => k_is)
    (case cisshort => k_is)
    (case kisshort => k_is)
    (case aisop => k_is)
    (case lisop => k_is)
    (case cisop => k_is)
    (case kisop => k_is)
    (case ademand => k_is)
    (case ldemand => k_is)
    (case cdemand => k_is)
    (case kdemand => k_is)
    (case ainner => k_is)
    (case linner => k_is)
    (case cinner => k_is)
    (case kinner => k_is)
    (case asize => k_is)
    (case lsize => k_is)
    (case csize => k_is)
    (case ksize => k_is)
    (case adepth => k_is)
    (case ldepth => k_is)
    (case cdepth => k_is)
    (case kdepth => k_is)
    (case gOp => k_is)
    (case hOp => decide +kernel)
    (case rdC => k_is)
    (case gaC => k_is)
    (case scall => k_is)
    (case rcall => k_is)
    (case lstcall => k_is)
    (case cstcall => k_is)
    (case kstcall => k_is)
    (case sstop => k_is)
    (case rstop => k_is)
    (case lststop => k_is)
    (case cststop => k_is)
    (case kststop => k_is)
    (case mpeq => k_is)
    (case ipeq => k_is)
    (case lpeq => k_is)
    (case cpeq => k_is)
    (case kpeq => k_is)
    (case aCK => k_is)
    (case pgK => k_is)
    (case hdK => k_is)
    (case poK => k_is)
    (case saK => k_is)
    (case nK_by_name => k_is)
    (case mkK => k_is)
    (case kcK => k_is)
    (case haK => k_is)
    (case hmK => k_is)
    (case icK => k_is)
    (case tyK => k_is)
    (case aCD => k_is)
    (case pgD => k_is)
    (case hdD => k_is)
    (case poD => k_is)
    (case saD => k_is)
    (case nD_params => k_is)
    (case nD_body => k_is)
    (case mkD => k_is)
    (case kcD => k_is)
    (case haD => k_is)
    (case hmD => k_is)
    (case icD => k_is)
    (case tyD => k_is)
    (case mbin => k_is)
    (case ibin => k_is)
    (case lbin => k_is)
    (case cbin => k_is)
    (case kbin => k_is)
    (case lkD => k_is)
    (case lk0 => k_is)
    (case mbset => k_is)
    (case ibset => k_is)
    (case lbset => k_is)
    (case cbset => k_is)
    (case kbset => k_is)
    (case mbget => k_is)
    (case ibget => k_is)
    (case lbget => k_is)
    (case cbget => k_is)
    (case kbget => k_is)
    (case mblen => k_is)
    (case iblen => k_is)
    (case lblen => k_is)
    (case cblen => k_is)
    (case kblen => k_is)
    (case mbnames => k_is)
    (case ibnames => k_is)
    (case lbnames => k_is)
    (case cbnames => k_is)
    (case kbnames => k_is)
    (case mbeq => k_is)
    (case ibeq => k_is)
    (case lbeq => k_is)
    (case cbeq => k_is)
    (case kbeq => k_is)
    (case mbor => k_is)
    (case ibor => k_is)
    (case lbor => k_is)
    (case cbor => k_is)
    (case kbor => k_is)
    (case mbio => k_is)
    (case ibio => k_is)
    (case lbio => k_is)
    (case cbio => k_is)
    (case kbio => k_is)
    (case mdin => k_is)
    (case idin => k_is)
    (case ldin => k_is)
    (case cdin => k_is)
    (case kdin => k_is)
    (case gMd => k_is)
    (case hMd => decide +kernel)
    (case gMp => k_is)
    (case hMp => decide +kernel)
    (case z_dict => k_is)
    (case z_sorted => k_is)
    (case mdeq => k_is)
    (case ideq => k_is)
    (case ldeq => k_is)
    (case cdeq => k_is)
    (case kdeq => k_is)
    (case aarenames => k_is)
    (case larenames => k_is)
    (case carenames => k_is)
    (case karenames => k_is)
    (case alim => k_is)
    (case llim => k_is)
    (case clim => k_is)
    (case klim => k_is)
    (case auni => k_is)
    (case luni => k_is)
    (case cuni => k_is)
    (case kuni => k_is)
    (case acellat => k_is)
    (case lcellat => k_is)
    (case ccellat => k_is)
    (case kcellat => k_is)
    (case amixed => k_is)
    (case lmixed => k_is)
    (case cmixed => k_is)
    (case kmixed => k_is)
    (case arow => k_is)
    (case lrow => k_is)
    (case crow => k_is)
    (case krow => k_is)
    (case adefn => k_is)
    (case ldefn => k_is)
    (case cdefn => k_is)
    (case kdefn => k_is)
    (case arows => k_is)
    (case lrows => k_is)
    (case crows => k_is)
    (case krows => k_is)
    (case albk => k_is)
    (case llbk => k_is)
    (case clbk => k_is)
    (case klbk => k_is)
    (case alis => k_is)
    (case llis => k_is)
    (case clis => k_is)
    (case klis => k_is)
    (case adue => k_is)
    (case ldue => k_is)
    (case cdue => k_is)
    (case kdue => k_is)
    (case aljo => k_is)
    (case lljo => k_is)
    (case cljo => k_is)
    (case kljo => k_is)
    (case alex => k_is)
    (case llex => k_is)
    (case clex => k_is)
    (case klex => k_is)
    (case aleq => k_is)
    (case lleq => k_is)
    (case cleq => k_is)
    (case kleq => k_is)
    (case atwo => k_is)
    (case ltwo => k_is)
    (case ctwo => k_is)
    (case ktwo => k_is)
    (case alaw => k_is)
    (case llaw => k_is)
    (case claw => k_is)
    (case klaw => k_is)
    (case fi => k_is)
    (case nqK => k_is)
    (case opK => k_is)
    (case neD => k_is)
    (case obD => k_is)
    (case eKC => decide +kernel)
    (case eKD => decide +kernel)
    (case sBN => k_is)
    (case z_abs => k_is)
    (case z_range => k_is)
    (case z_set => k_is)
    (case z_min => k_is)

