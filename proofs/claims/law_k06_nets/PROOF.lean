import PyProof.Rows.All
import Wide.All
import OpenK.AllK
import Wide.FinOn
import KE.DatumOrd
import HandS.Base
import HandS.Call
import HandS.List
import HandS.SortKw
import HandS.ForMost
import HandS.ForExc
import HandS.Evl
import HandS.Walk
import HandS.IsInst
import HandS.Codes
import HandS.Exc
import HandS.ExcOwn
import HandS.ClsMeth
import PyProof.EqAt
import PyProof.EqKinds
import PyProof.TupleCall
import HandS.OwnEq
import PyProof.FString
import KE.KSuper
import KE.KExcSuper
import KE.OsGo
import HandS.ExcCtx
import HandS.TupAny
import PyProof.ListMulRoad
import PyProof.FactsAll.tuple_2
import HandS.TupMul
import HandS.Dict
import HandS.DictComp
import HandS.Flow
import HandS.Strs
import HandS.TupSets
import HandS.WordsExc
import KE.KOpsOwn
import HandS.HotCalls
import HandS.Words
import HandS.ExcField
import KE.KEqDeep
import KE.KExcLine
import KE.RegKSuper
import PySem.Challenge.RW_fullseats_k06_nets
set_option Elab.async false
set_option linter.all false
set_option maxRecDepth 100000
set_option maxHeartbeats 2000000
/-! max(xs, default=d) of a list of ints -/
namespace FsR
open PySem PySem.Spec PyProof.Rows L2
def maxFrom (y : Int) (ys : List Int) : Int := ys.foldl max y
def maxDef (d : Int) : List Int → Int
  | [] => d
  | y :: ys => maxFrom y ys
theorem maxOf_eq : ∀ (ys : List Int) (y : Int), PySem.W.maxOf y ys = maxFrom y ys
  | [], y => rfl
  | z :: zs, y => by
    have e : (if PySem.W.DatumOrd.lt y z = true then z else y) = max y z := by
      show (if decide (y < z) = true then z else y) = max y z
      by_cases h : y < z
      · rw [if_pos (decide_eq_true h)]; omega
      · rw [if_neg (by simpa using h)]; omega
    have ih := maxOf_eq zs (max y z)
    unfold PySem.W.maxOf maxFrom at *
    rw [List.foldl_cons, List.foldl_cons, e]
    exact ih
theorem readsAll_ints {h : Heap} : ∀ {vs : List Value} {ns : List Int}, IntsAre vs ns → ∃ as, ReadsAll h vs (ns.map PySem.W.Datum.toD) as
  | _, _, .nil => ⟨[], .nil⟩
  | _, _, .cons n t r => by
    obtain ⟨as, z⟩ := readsAll_ints (h := h) r
    exact ⟨[] ++ as, .cons (.int n t) z⟩
/-- max(xs, default=d) -/
def rMaxD (K : PySem.W.Frag) : List V → List V → Hp → VK → Prop := fun xs zs H Q => ∃ (a : Addr) (ns : List Int) (d : Int), xs = [V.ref a] ∧ zs = [V.int d] ∧ SqL K H a (ns.map V.int) ∧ Q (.int (maxDef d ns)) H
theorem ck_maxD {X : Cx} (hc : X.calm = true) (hu : X.A.units + 1 + 1 < cLine) : CallRK X (.builtin "max") ["default"] (rMaxD X.K) := by
  intro pins s σ H xs zs us ws Q I r rz h
  obtain ⟨a, ns, d, rfl, rfl, hs, q⟩ := h
  obtain ⟨its, rv, hl, _⟩ := I.list hs
  rw [Vals.ref1 r]
  cases rz with
  | cons rd rn =>
    cases rn
    obtain ⟨t, rfl⟩ := rd
    have hI := rv.ints
    show wpAny (model X.prog X.w) X.A (call (.builtin "max") [.ref a] [(Str.ofString "default", .int d t)]) _ _ _
    refine PySem.W.max_list_datum_default (α := Int) (xs := ns) (I.ok.hd hc) hl.isList (readsAll_ints hI) (by show X.A.units + 1 + 0 < cLine; omega) (fun e h' tk hk => ?_) (fun y ys i v h' tk e hi hv hk => ?_)
    · subst e
      exact ⟨.int d, H, I.kept hk, ⟨t, rfl⟩, q⟩
    · subst e
      obtain ⟨as, z⟩ := hv
      have z' : ∃ t', v = Value.int (PySem.W.maxOf y ys) t' := by
        have z2 : Reads h' v (.int (PySem.W.maxOf y ys)) as := z
        cases z2 with
        | int _ t' => exact ⟨t', rfl⟩
      obtain ⟨t', rfl⟩ := z'
      refine ⟨.int (PySem.W.maxOf y ys), H, I.kept hk, ⟨t', rfl⟩, ?_⟩
      rw [maxOf_eq]
      exact q
end FsR

set_option Elab.async false
set_option linter.all false
set_option maxRecDepth 100000
set_option maxHeartbeats 2000000
/-! further Ev lemmas -/
namespace FsE
open PySem L2 Evl
section
variable {K : PySem.W.Frag} {σ : L2.St} {H : Hp} {ta tb tc te : TE} {x y z : V}
theorem ev_chain {r r' : R2} {a b : Bool} (ha : Ev ta σ H x) (hb : Ev tb σ H y) (h1 : RV r x y H (.bl a)) (hc : a = true → Ev tc σ H z) (h2 : a = true → RV r' y z H (.bl b)) : Ev (tChain r r' ta tb tc) σ H (.bl (a && b)) := fun H1 e Q q =>
  ha H1 e _ fun H2 e2 => hb H2 (e.trans e2) _ fun H3 e3 => h1 H3 ((e.trans e2).trans e3) _ fun H4 e4 => ⟨a, rfl, by
    cases a with
    | true =>
      show tc σ H4 _
      exact hc rfl H4 (((e.trans e2).trans e3).trans e4) _ fun H5 e5 => h2 rfl H5 ((((e.trans e2).trans e3).trans e4).trans e5) Q fun H6 e6 => q H6 ((((e2.trans e3).trans e4).trans e5).trans e6)
    | false =>
      show Q (.bl false) H4
      exact q H4 ((e2.trans e3).trans e4)⟩
theorem rc_isi {t T : String} {b : Bool} (ht : ∀ H1, Ex H H1 → TyX K H1 x (.type t)) (hk : kitB t T = some b) : RC (rIsi K) [x, .ty T] H (.bl b) := fun H1 e Q q =>
  ⟨x, .ty T, .type t, .type T, b, rfl, .ty T, ht H1 e, kit_ty hk, q H1 (Ex.refl H1)⟩
theorem rc_isStr {z : Str} {T : String} {b : Bool} (hk : kitB "str" T = some b) : RC (rIsi K) [.str z, .ty T] H (.bl b) := rc_isi (fun _ _ => .base (.str z)) hk
theorem rc_isInt {i : Int} {T : String} {b : Bool} (hk : kitB "int" T = some b) : RC (rIsi K) [.int i, .ty T] H (.bl b) := rc_isi (fun _ _ => .base (.int i)) hk
/-- len of a text -/
theorem rc_lenS {z : Str} (hz : z.length ≤ sizeLine) : RC (fun xs H Q => ∃ a, xs = [.str a] ∧ a.length ≤ sizeLine ∧ Q (.int (a.length : Nat)) H) [.str z] H (.int (z.length : Nat)) := fun H1 _ _ q => ⟨z, rfl, hz, q H1 (Ex.refl H1)⟩
theorem rv_inSign {c : Nat} {z : Str} : RV (fun x y H Q => ∃ (c : Nat) (z : Str), x = .str ⟨#[c]⟩ ∧ y = .str z ∧ Q (.bl (decide (c ∈ z.cps.toList))) H) (.str ⟨#[c]⟩) (.str z) H (.bl (decide (c ∈ z.cps.toList))) := fun H1 _ _ q => ⟨c, z, rfl, rfl, q H1 (Ex.refl H1)⟩
theorem rv_niSign {c : Nat} {z : Str} : RV (fun x y H Q => ∃ (c : Nat) (z : Str), x = .str ⟨#[c]⟩ ∧ y = .str z ∧ Q (.bl (!decide (c ∈ z.cps.toList))) H) (.str ⟨#[c]⟩) (.str z) H (.bl (!decide (c ∈ z.cps.toList))) := fun H1 _ _ q => ⟨c, z, rfl, rfl, q H1 (Ex.refl H1)⟩
/-- a comprehension over a text -/
theorem el_lcS {z : Str} {tl : TE} {j : Nat} {vs : List Nat} {t : TT} (f : Nat → Bool) (v : Nat → V) (h : Ev tl σ H (.str z)) (hz : z.cps.size ≤ 40000) (hw : ∀ x, wipe ((wipe σ vs).set j (some x)) vs = wipe σ vs)
    (ht : ∀ (i : Nat) (c : Nat) H1, Ex H H1 → z.cps[i]? = some c → EvT t ((wipe σ vs).set j (some (.str ⟨#[c]⟩))) H1 (f i)) (he : ∀ (i : Nat) (c : Nat) H1, Ex H H1 → z.cps[i]? = some c → f i = true → Ev te ((wipe σ vs).set j (some (.str ⟨#[c]⟩))) H1 (v i)) :
    EvL (tLc (iStr tl) (gName j) t te vs) σ H (given z.cps.size f v) := fun H0 e Q q => h H0 e _ fun H1 e1 => ⟨z, rfl, fun Dl hD =>
  lc_it walk_str (Cw H1 f v Dl) ⟨hD, Ex.new hD, upd_same⟩ (fun _ _ _ _ => trivial) (fun i x H' H2 hi p y => by
    obtain ⟨rfl, c, hc, rfl⟩ := y
    exact ⟨hw _, cw_turn p (by omega) (ht i c H1 (e.trans e1) hc) (fun hf => he i c H1 (e.trans e1) hc hf)⟩)
    (fun H' p => q Dl H' (fresh_back e1 p.1) (e1.trans p.2.1) p.2.2)⟩
/-- all of a new list of bools -/
theorem ev_all {bs : List Bool} (h : EvL te σ H (bs.map V.bl)) : Ev (tCB (rAll K) (tCons te tNil)) σ H (.bl (bs.all id)) := fun H1 e Q q =>
  h H1 e _ fun p H2 _ e2 hp => ⟨p, bs, rfl, sq_of hp, q H2 e2⟩
/-- given, no test -/
theorem given_all {n : Nat} {v : Nat → V} : given n (fun _ => true) v = (List.range n).map v := by
  unfold given
  rw [List.filter_eq_self.mpr (fun _ _ => rfl)]
theorem et_nil : EvT tYes σ H true := fun H1 _ _ q => q H1 (Ex.refl H1)
theorem range_map {α : Type} (xs : List α) (d : α) (v : α → V) : (List.range xs.length).map (fun i => v (xs.getD i d)) = xs.map v := by
  refine List.ext_getElem? fun i => ?_
  rw [List.getElem?_map, List.getElem?_map]
  by_cases hi : i < xs.length
  · rw [List.getElem?_range hi, List.getElem?_eq_getElem hi]
    show some (v (xs.getD i d)) = some (v xs[i])
    rw [List.getD_eq_getElem?_getD, List.getElem?_eq_getElem hi]
    rfl
  · rw [List.getElem?_eq_none (by rw [List.length_range]; omega), List.getElem?_eq_none (by omega)]
    rfl
/-- [e for c in text] -/
theorem el_lcSm {z : Str} {tl : TE} {j : Nat} {vs : List Nat} (v : Nat → V) (h : Ev tl σ H (.str z)) (hz : z.length ≤ 40000) (hw : ∀ x, wipe ((wipe σ vs).set j (some x)) vs = wipe σ vs)
    (he : ∀ (c : Nat) H1, Ex H H1 → c ∈ z.cps.toList → Ev te ((wipe σ vs).set j (some (.str ⟨#[c]⟩))) H1 (v c)) : EvL (tLc (iStr tl) (gName j) tYes te vs) σ H (z.cps.toList.map v) := by
  have g := el_lcS (te := te) (j := j) (vs := vs) (t := tYes) (fun _ => true) (fun i => v (z.cps.toList.getD i 0)) h hz hw (fun _ _ _ _ _ => et_nil) (fun i c H3 e hc _ => by
    have e1 : z.cps.toList.getD i 0 = c := by
      rw [List.getD_eq_getElem?_getD, Array.getElem?_toList, hc]
      rfl
    rw [e1]
    exact he c H3 e (by rw [List.mem_iff_getElem?]; exact ⟨i, by rw [Array.getElem?_toList, hc]⟩))
  rw [given_all] at g
  have e := range_map z.cps.toList 0 v
  rw [Array.length_toList] at e
  rw [e] at g
  exact g
/-- [e for x in list] -/
theorem el_lcLm {a : Addr} {xs : List V} {tl : TE} {j : Nat} {vs : List Nat} (v : V → V) (h : Ev tl σ H (.ref a)) (hx : SqL K H a xs) (hz : xs.length ≤ 40000) (hw : ∀ x, wipe ((wipe σ vs).set j (some x)) vs = wipe σ vs)
    (he : ∀ (x : V) H1, Ex H H1 → x ∈ xs → Ev te ((wipe σ vs).set j (some x)) H1 (v x)) : EvL (tLc (iList K tl) (gName j) tYes te vs) σ H (xs.map v) := by
  have g := el_lcL (K := K) (te := te) (j := j) (vs := vs) (t := tYes) (fun _ => true) (fun i => v (xs.getD i .non)) h hx hz hw (fun _ _ _ _ _ => et_nil) (fun i x H3 e hc _ => by
    have e1 : xs.getD i .non = x := by
      rw [List.getD_eq_getElem?_getD, hc]
      rfl
    rw [e1]
    exact he x H3 e (List.mem_iff_getElem?.mpr ⟨i, hc⟩))
  rw [given_all, range_map xs .non v] at g
  exact g
/-- [e for x in (a new list)] -/
theorem el_lcNLm {xs : List V} {tl : TE} {j : Nat} {vs : List Nat} (v : V → V) (h : EvL tl σ H xs) (hz : xs.length ≤ 40000) (hw : ∀ x, wipe ((wipe σ vs).set j (some x)) vs = wipe σ vs)
    (he : ∀ (x : V) H1, Ex H H1 → x ∈ xs → Ev te ((wipe σ vs).set j (some x)) H1 (v x)) : EvL (tLc (iList K tl) (gName j) tYes te vs) σ H (xs.map v) := by
  have g := el_lcNL (K := K) (te := te) (j := j) (vs := vs) (t := tYes) (fun _ => true) (fun i => v (xs.getD i .non)) h hz hw (fun _ _ _ _ _ => et_nil) (fun i x H3 e hc _ => by
    have e1 : xs.getD i .non = x := by
      rw [List.getD_eq_getElem?_getD, hc]
      rfl
    rw [e1]
    exact he x H3 e (List.mem_iff_getElem?.mpr ⟨i, hc⟩))
  rw [given_all, range_map xs .non v] at g
  exact g
/-- [e for k in range(n)] -/
theorem el_lcRm {tn : TA} {j : Nat} {vs : List Nat} {n : Int} (v : Nat → V) (h : EvA tn σ H [.int n]) (hn : 0 ≤ n ∧ n ≤ 40000) (hw : ∀ x, wipe ((wipe σ vs).set j (some x)) vs = wipe σ vs)
    (he : ∀ (i : Nat) H1, Ex H H1 → (i : Int) < n → Ev te ((wipe σ vs).set j (some (.int (i : Int)))) H1 (v i)) : EvL (tLc (iRng1 tn) (gName j) tYes te vs) σ H ((List.range n.toNat).map v) := by
  have g := el_lcR1 (te := te) (j := j) (vs := vs) (t := tYes) (fun _ => true) v h hn hw (fun _ _ _ _ => et_nil) (fun i H1 e hi _ => he i H1 e hi)
  rw [given_all] at g
  exact g
/-- a comprehension over a tuple -/
theorem el_lcT {a : Addr} {xs : List V} {tl : TE} {j : Nat} {vs : List Nat} {t : TT} (f : Nat → Bool) (v : Nat → V) (h : Ev tl σ H (.ref a)) (hx : SqT K H a xs) (hz : xs.length ≤ 40000) (hw : ∀ x, wipe ((wipe σ vs).set j (some x)) vs = wipe σ vs)
    (ht : ∀ (i : Nat) (x : V) H1, Ex H H1 → xs[i]? = some x → EvT t ((wipe σ vs).set j (some x)) H1 (f i)) (he : ∀ (i : Nat) (x : V) H1, Ex H H1 → xs[i]? = some x → f i = true → Ev te ((wipe σ vs).set j (some x)) H1 (v i)) :
    EvL (tLc (iTup K tl) (gName j) t te vs) σ H (given xs.length f v) := fun H0 e Q q => h H0 e _ fun H1 e1 => ⟨a, rfl, ⟨xs, ex_t (e.trans e1) hx⟩, fun Dl hD =>
  lc_tup (xs := xs) (Cw H1 f v Dl) ⟨hD, Ex.new hD, upd_same⟩ (fun i H' _ p => ex_t ((e.trans e1).trans p.2.1) hx) (fun i x H' hi p => ⟨hw x, cw_turn p (by have := (List.getElem?_eq_some_iff.mp hi).1; omega) (ht i x H1 (e.trans e1) hi) (fun hf => he i x H1 (e.trans e1) hi hf)⟩)
    (fun H' p => q Dl H' (fresh_back e1 p.1) (e1.trans p.2.1) p.2.2)⟩
theorem ev_fld {a C dx : Addr} {fs : List (Str × V)} {f : Str} {v : V} (h : Ev ta σ H (.ref a)) (hi : H a = some (.ins C dx fs)) (cl : Cls K C) (n : NoAttr K C f) (l : fs.lookup f = some v) : Ev (tFld K ta f) σ H v := fun H1 e Q q =>
  h H1 e _ fun H2 e2 => ⟨a, C, dx, fs, v, rfl, (e.trans e2) _ _ hi, cl, n, l, q H2 e2⟩
theorem ev_sum {ns : List Int} (h : EvL te σ H (ns.map V.int)) : Ev (tCB (rSum K) (tCons te tNil)) σ H (.int ns.sum) := fun H1 e Q q =>
  h H1 e _ fun p H2 _ e2 hp => ⟨p, ns, rfl, sq_of hp, q H2 e2⟩
theorem ev_maxD {ns : List Int} {d : Int} (h : EvL te σ H (ns.map V.int)) : Ev (tCKw (FsR.rMaxD K) (tCons te tNil) (tCons (tC (.int d)) tNil)) σ H (.int (FsR.maxDef d ns)) := fun H1 e Q q =>
  h H1 e _ fun p H2 _ e2 hp => ⟨p, ns, d, rfl, rfl, sq_of hp, q H2 e2⟩
theorem ev_lenT {a : Addr} {xs : List V} (h : Ev ta σ H (.ref a)) (hx : SqT K H a xs) : Ev (tCB (fun xs H Q => ∃ p ys, xs = [V.ref p] ∧ (SqL K H p ys ∨ SqT K H p ys) ∧ Q (.int ys.length) H) (tCons ta tNil)) σ H (.int (xs.length : Int)) := fun H1 e Q q =>
  h H1 e _ fun H2 e2 => ⟨a, xs, rfl, .inr (ex_t (e.trans e2) hx), q H2 e2⟩
theorem rc_isiOwn {C : Addr} {t : Value} {b : Bool} (ht : ∀ H1, Ex H H1 → TyX K H1 x t) (hk : PySem.W.kitOne K t (.ref C) = some b) : RC (rIsi K) [x, .ref C] H (.bl b) := fun H1 e Q q =>
  ⟨x, .ref C, t, .ref C, b, rfl, .own C, ht H1 e, hk, q H1 (Ex.refl H1)⟩
theorem range_ys {xs ys : List V} (hl : ys.length = xs.length) : (List.range xs.length).map (fun i => ys.getD i .non) = ys := by
  have e := range_map ys .non (fun y => y)
  rw [List.map_id', hl] at e
  exact e
/-- comprehensions, the result told by its items -/
theorem el_lcNLy {xs ys : List V} {tl : TE} {j : Nat} {vs : List Nat} (h : EvL tl σ H xs) (hz : xs.length ≤ 40000) (hw : ∀ x, wipe ((wipe σ vs).set j (some x)) vs = wipe σ vs) (hl : ys.length = xs.length)
    (he : ∀ (i : Nat) (x y : V) H1, Ex H H1 → xs[i]? = some x → ys[i]? = some y → Ev te ((wipe σ vs).set j (some x)) H1 y) : EvL (tLc (iList K tl) (gName j) tYes te vs) σ H ys := by
  have g := el_lcNL (K := K) (te := te) (j := j) (vs := vs) (t := tYes) (fun _ => true) (fun i => ys.getD i .non) h hz hw (fun _ _ _ _ _ => et_nil) (fun i x H3 e hc _ => by
    have hi := (List.getElem?_eq_some_iff.mp hc).1
    have hy : ys[i]? = some (ys.getD i .non) := by rw [List.getD_eq_getElem?_getD, List.getElem?_eq_getElem (by omega)]; rfl
    exact he i x _ H3 e hc hy)
  rw [given_all, range_ys hl] at g
  exact g
theorem el_lcLy {a : Addr} {xs ys : List V} {tl : TE} {j : Nat} {vs : List Nat} (h : Ev tl σ H (.ref a)) (hx : SqL K H a xs) (hz : xs.length ≤ 40000) (hw : ∀ x, wipe ((wipe σ vs).set j (some x)) vs = wipe σ vs) (hl : ys.length = xs.length)
    (he : ∀ (i : Nat) (x y : V) H1, Ex H H1 → xs[i]? = some x → ys[i]? = some y → Ev te ((wipe σ vs).set j (some x)) H1 y) : EvL (tLc (iList K tl) (gName j) tYes te vs) σ H ys := by
  have g := el_lcL (K := K) (te := te) (j := j) (vs := vs) (t := tYes) (fun _ => true) (fun i => ys.getD i .non) h hx hz hw (fun _ _ _ _ _ => et_nil) (fun i x H3 e hc _ => by
    have hi := (List.getElem?_eq_some_iff.mp hc).1
    have hy : ys[i]? = some (ys.getD i .non) := by rw [List.getD_eq_getElem?_getD, List.getElem?_eq_getElem (by omega)]; rfl
    exact he i x _ H3 e hc hy)
  rw [given_all, range_ys hl] at g
  exact g
theorem el_lcTy {a : Addr} {xs ys : List V} {tl : TE} {j : Nat} {vs : List Nat} (h : Ev tl σ H (.ref a)) (hx : SqT K H a xs) (hz : xs.length ≤ 40000) (hw : ∀ x, wipe ((wipe σ vs).set j (some x)) vs = wipe σ vs) (hl : ys.length = xs.length)
    (he : ∀ (i : Nat) (x y : V) H1, Ex H H1 → xs[i]? = some x → ys[i]? = some y → Ev te ((wipe σ vs).set j (some x)) H1 y) : EvL (tLc (iTup K tl) (gName j) tYes te vs) σ H ys := by
  have g := el_lcT (K := K) (te := te) (j := j) (vs := vs) (t := tYes) (fun _ => true) (fun i => ys.getD i .non) h hx hz hw (fun _ _ _ _ _ => et_nil) (fun i x H3 e hc _ => by
    have hi := (List.getElem?_eq_some_iff.mp hc).1
    have hy : ys[i]? = some (ys.getD i .non) := by rw [List.getD_eq_getElem?_getD, List.getElem?_eq_getElem (by omega)]; rfl
    exact he i x _ H3 e hc hy)
  rw [given_all, range_ys hl] at g
  exact g
end
end FsE

set_option Elab.async false
set_option linter.all false
set_option maxRecDepth 100000
set_option maxHeartbeats 2000000
/-! A staticmethod that is called off its class. -/
namespace FsR
open PySem PySem.Spec PyProof.Rows L2 ClX
structure SMet (K : PySem.W.Frag) (C : Addr) (mc : Value) (m : Str) (p g : Addr) : Prop where
  at_ : PySem.W.findCls K (.ref C) mc m = some (.get (.builtin "staticmethod.__get__") (.ref p) .none (.ref C))
  rc : ∃ rest, PySem.W.recIn K p "staticmethod" = some (.ref g :: rest)
  kp : PySem.W.keepIn K (.ref g) = true
section
variable {X : Cx} {pins : List (Addr × Obj)} {σ : L2.St} {H : Hp} {s : Shared} {C p g : Addr} {mc : Value} {m : Str} {A : Around} {E : Value → Shared → Prop}
theorem getmethsm_ok {pl : Sem Bool} {Q : Value × List Value → Shared → Prop} (I : Inv X pins σ H s) (r : CRead X.K C mc) (k : SMet X.K C mc m p g)
    (h : ∀ s', Inv X pins σ H s' → Q (.ref g, []) s') : wpAny (model X.prog X.w) A (getMethod (.ref C) m pl) Q E s := by
  obtain ⟨rest, hp⟩ := k.rc
  exact PySem.W.method_cls I.kIn r.ga (PySem.W.cls_bind I.kIn r.rd k.at_ (wpAny_call (PySem.W.sm_get (s := { s with toks := s.toks + 1 }) I.kIn hp (PySem.W.handed_on rfl (h _ (I.tok _))))))
end
/-- C.m(..), e the class at C, m a staticmethod; E: what is wanted of what it raises, at the slots -/
def tStat (C : Addr) (sp : Sp) (E : L2.St → XK) (ta : TE) (t : TA) : TE := fun σ H Q => ta σ H fun x H1 => x = .ref C ∧ t σ H1 fun vs H2 => sp vs H2 Q (E σ)
theorem passesAt_of {CX : CXT} {X : Cx} {E : XK} (h : Passes CX X E) (σ : L2.St) : PassesAt CX X σ E := fun pins H s e s' I c => h pins σ H s e s' I c
section
variable {X : Cx} {CX : CXT} {k : Nat} {C p g : Addr} {mc : Value} {fd : FuncData} {ps : List Str} {sp : Sp} {E : L2.St → XK} {o e : Expr} {es : List Expr} {m : Str} {pos apos : Pos} {ta : TE} {t : TA} {pl : Sem Bool}
theorem pe_stat (he : PE X o ta) (r : CRead X.K C mc) (c : SMet X.K C mc m p g) (F : FnOk X.prog X.w X.K X.mg X.base CX k g fd ps sp) (hr : Room k X.A) (hb : Binds X.K fd ps []) (hx : ∀ σ, PassesAt CX X σ (E σ)) (ha : PA X (e :: es) t)
    (hst : starEach (e :: es) X.env = (false, eval e X.env) :: starEach es X.env := by rfl) (hpl : (backTo pos (starEach es X.env)).any (·.1) = false := by rfl)
    (ht : eval (.Call (.Attribute o m apos) (e :: es) [] pos) X.env = (do
      let ov ← eval o X.env
      standAt apos.atName
      let (f, first) ← holding [ov] (getMethod ov m pl)
      callWith pos f first (backTo pos (starEach (e :: es) X.env)) (backToKw pos (keywordEach [] X.env))) := by rfl) :
    PE X (.Call (.Attribute o m apos) (e :: es) [] pos) (tStat C sp E ta t) := by
  refine ⟨fun pins s σ H Q I h => ?_⟩
  refine PySem.W.methodCall_KW (pl := pl) (thn (he.run pins s σ H _ I h) fun u s1 ⟨x, H1, I1, rx, ex, q⟩ => ?_) ht
  subst ex
  obtain rfl : u = Value.ref C := rx
  refine getmethsm_ok I1 r c fun s2 I2 => ?_
  refine PySem.W.callWith_K (first := []) (h₀ := X.base) I.ok.mod.kin c.kp (thn (ha.run pos pins s2 σ H1 _ I2 q) fun us s3 ⟨vs, H2, I3, rv, q2⟩ => ⟨I3.kIn, ?_⟩) hst hpl
  exact run_fnS F hr hb (hx σ) I3 rv q2
theorem pe_stat0 (he : PE X o ta) (r : CRead X.K C mc) (c : SMet X.K C mc m p g) (F : FnOk X.prog X.w X.K X.mg X.base CX k g fd ps sp) (hr : Room k X.A) (hb : Binds X.K fd ps []) (hx : ∀ σ, PassesAt CX X σ (E σ))
    (ht : eval (.Call (.Attribute o m apos) [] [] pos) X.env = (do
      let ov ← eval o X.env
      standAt apos.atName
      let (f, first) ← holding [ov] (getMethod ov m pl)
      callWith pos f first (backTo pos (starEach [] X.env)) (backToKw pos (keywordEach [] X.env))) := by rfl) :
    PE X (.Call (.Attribute o m apos) [] [] pos) (tStat C sp E ta tNil) := by
  refine ⟨fun pins s σ H Q I h => ?_⟩
  refine PySem.W.methodCall_KW (pl := pl) (thn (he.run pins s σ H _ I h) fun u s1 ⟨x, H1, I1, rx, ex, q⟩ => ?_) ht
  subst ex
  obtain rfl : u = Value.ref C := rx
  refine getmethsm_ok I1 r c fun s2 I2 => ?_
  exact PySem.W.callWith_K0 (first := []) I2.kIn c.kp (run_fnS (us := []) (vs := []) F hr hb (hx σ) I2 .nil q)
end
end FsR

set_option Elab.async false
set_option linter.all false
set_option maxRecDepth 100000
set_option maxHeartbeats 2000000
namespace FsC
open PySem L2 Evl ClX FsR
/-- a def of the module that may be called by its name -/
structure CalX (P : Program) (w : World) (K : PySem.W.Frag) (mg : Str → Option Value) (base : Heap) (CX : CXT) (k : Nat) (x : Str) (sp : Sp) : Prop where
  ex : ∃ (f : Addr) (fd : FuncData) (ps : List Str), FnOk P w K mg base CX k f fd ps sp ∧ mg x = some (.ref f) ∧ PySem.W.keepIn K (.ref f) = true ∧ Binds K fd ps []
/-- C.m, a staticmethod of the class at C -/
structure StaX (P : Program) (w : World) (K : PySem.W.Frag) (mg : Str → Option Value) (base : Heap) (CX : CXT) (k : Nat) (C : Addr) (m : Str) (sp : Sp) : Prop where
  ex : ∃ (p f : Addr) (mc : Value) (fd : FuncData) (ps : List Str), CRead K C mc ∧ SMet K C mc m p f ∧ FnOk P w K mg base CX k f fd ps sp ∧ Binds K fd ps []
/-- C(..): a class that is made by its name -/
structure MakX (P : Program) (w : World) (K : PySem.W.Frag) (mg : Str → Option Value) (base : Heap) (CX : CXT) (k : Nat) (x : Str) (C : Addr) (sp : Sp) : Prop where
  ex : ∃ (f : Addr) (fd : FuncData) (ps : List Str), Mk K C f ∧ FnOk P w K mg base CX k f fd ps sp ∧ mg x = some (.ref C) ∧ Binds K fd ps []
section
variable {X : Cx} {CX : CXT} {k j : Nat} {C : Addr} {x m : Str} {sp : Sp} {E : L2.St → XK} {p pos apos : Pos} {e o : Expr} {es : List Expr} {ta : TE} {t : TA}
theorem pe_cx (c : CalX X.prog X.w X.K X.mg X.base CX k x sp) (hr : Room j X.A) (hk : k ≤ j) (hg : Gl X x) (hx : ∀ σ, PassesAt CX X σ (E σ)) (ha : PA X (e :: es) t)
    (hdb : (x == ("__debug__" : Str)) = false := by decide) (he : starEach (e :: es) X.env = (false, eval e X.env) :: starEach es X.env := by rfl) (hpl : (backTo pos (starEach es X.env)).any (·.1) = false := by rfl) :
    PE X (.Call (.Name x p) (e :: es) [] pos) (tCallS sp E t) := by
  obtain ⟨f, fd, ps, F, hm, kp, b⟩ := c.ex
  exact pe_callS F (hr.mono hk) hg hm kp b hx ha hdb he hpl
theorem pe_sx {pl : Sem Bool} (c : StaX X.prog X.w X.K X.mg X.base CX k C m sp) (hr : Room j X.A) (hk : k ≤ j) (ho : PE X o ta) (hx : ∀ σ, PassesAt CX X σ (E σ)) (ha : PA X (e :: es) t)
    (hst : starEach (e :: es) X.env = (false, eval e X.env) :: starEach es X.env := by rfl) (hpl : (backTo pos (starEach es X.env)).any (·.1) = false := by rfl)
    (ht : eval (.Call (.Attribute o m apos) (e :: es) [] pos) X.env = (do
      let ov ← eval o X.env
      standAt apos.atName
      let (f, first) ← holding [ov] (getMethod ov m pl)
      callWith pos f first (backTo pos (starEach (e :: es) X.env)) (backToKw pos (keywordEach [] X.env))) := by rfl) :
    PE X (.Call (.Attribute o m apos) (e :: es) [] pos) (tStat C sp E ta t) := by
  obtain ⟨p, f, mc, fd, ps, r, s, F, b⟩ := c.ex
  exact pe_stat (pl := pl) ho r s F (hr.mono hk) b hx ha hst hpl ht
theorem pe_sx0 {pl : Sem Bool} (c : StaX X.prog X.w X.K X.mg X.base CX k C m sp) (hr : Room j X.A) (hk : k ≤ j) (ho : PE X o ta) (hx : ∀ σ, PassesAt CX X σ (E σ))
    (ht : eval (.Call (.Attribute o m apos) [] [] pos) X.env = (do
      let ov ← eval o X.env
      standAt apos.atName
      let (f, first) ← holding [ov] (getMethod ov m pl)
      callWith pos f first (backTo pos (starEach [] X.env)) (backToKw pos (keywordEach [] X.env))) := by rfl) :
    PE X (.Call (.Attribute o m apos) [] [] pos) (tStat C sp E ta tNil) := by
  obtain ⟨p, f, mc, fd, ps, r, s, F, b⟩ := c.ex
  exact pe_stat0 (pl := pl) ho r s F (hr.mono hk) b hx ht
theorem pe_mx {E : XK} (c : MakX X.prog X.w X.K X.mg X.base CX k x C sp) (hr : Room j X.A) (hk : k + 1 ≤ j) (hg : Gl X x) (hx : Passes CX X E) (ha : PA X (e :: es) t)
    (hdb : (x == ("__debug__" : Str)) = false := by decide) (he : starEach (e :: es) X.env = (false, eval e X.env) :: starEach es X.env := by rfl) (hpl : (backTo pos (starEach es X.env)).any (·.1) = false := by rfl) :
    PE X (.Call (.Name x p) (e :: es) [] pos) (tMake C sp [] E t) := by
  obtain ⟨f, fd, ps, M, F, hm, b⟩ := c.ex
  exact pe_make M F (hr.mono hk) hg hm b .nil hx ha hdb he hpl
theorem at0 {X : Cx} {E : L2.St → XK} : ∀ σ, PassesAt CX0 X σ (E σ) := fun _ _ _ _ _ _ _ h => h.elim
/-- what a call within a def that may raise lets out -/
theorem atX {P : Program} {w : World} {X : Cx} {E : XK} (h : Passes (L2.CX P w) X E) : ∀ σ, PassesAt (L2.CX P w) X σ ((fun _ => E) σ) := fun σ => passesAt_of h σ
end
section
variable {σ : L2.St} {H : Hp} {z : V} {sp : Sp} {ta : TA} {vs : List V} {E : L2.St → XK}
theorem ev_cx (h : EvA ta σ H vs) (hs : SpV sp vs H z) : Ev (tCallS sp E ta) σ H z := fun H1 e Q q =>
  h H1 e _ fun H2 e2 => hs H2 (e.trans e2) Q (fun H3 e3 => q H3 (e2.trans e3)) (E σ)
theorem ev_sx {C : Addr} {to : TE} (ho : Ev to σ H (.ref C)) (h : EvA ta σ H vs) (hs : SpV sp vs H z) : Ev (tStat C sp E to ta) σ H z := fun H1 e Q q =>
  ho H1 e _ fun H2 e2 => ⟨rfl, h H2 (e.trans e2) _ fun H3 e3 => hs H3 ((e.trans e2).trans e3) Q (fun H4 e4 => q H4 ((e2.trans e3).trans e4)) (E σ)⟩
theorem el_cx {xs : List V} (h : EvA ta σ H vs) (hs : SpL sp vs H xs) : EvL (tCallS sp E ta) σ H xs := fun H1 e Q q =>
  h H1 e _ fun H2 e2 => hs H2 (e.trans e2) Q (fun p H3 hp e3 h3 => q p H3 (fresh_back e2 hp) (e2.trans e3) h3) (E σ)
end
end FsC

set_option Elab.async false
set_option linter.all false
set_option maxRecDepth 100000
set_option maxHeartbeats 2000000
namespace Fs
open PySem L2 Evl
/-! ### operands, processes, offers -/
inductive Opd where
  | int (i : Int)
  | nm (z : Str)
def Opd.v : Opd → V
  | .int i => .int i
  | .nm z => .str z
mutual
inductive Pr where
  | choice (os : Ofs)
  | new (n : Str) (k : Int) (r : Pr)
  | cond (l r : Opd) (y n : Pr)
  | call (n : Str) (ops : List Opd)
inductive Ofs where
  | nil
  | cons (c : Str) (seat seats : Int) (op : Opd) (names : List Str) (rest : Pr) (os : Ofs)
end
mutual
def Pr.depth : Pr → Int
  | .choice os => 1 + os.depth
  | .new _ _ r => 1 + r.depth
  | .cond _ _ y n => 1 + max y.depth n.depth
  | .call _ _ => 1
def Ofs.depth : Ofs → Int
  | .nil => 0
  | .cons _ _ _ _ _ r os => max r.depth os.depth
end
def Ofs.len : Ofs → Nat
  | .nil => 0
  | .cons _ _ _ _ _ _ os => os.len + 1
mutual
def Pr.size : Pr → Int
  | .choice os => max 1 (os.len : Int) + os.sum
  | .new _ _ r => 1 + r.size
  | .cond _ _ y n => 1 + (y.size + n.size)
  | .call _ _ => 1
def Ofs.sum : Ofs → Int
  | .nil => 0
  | .cons _ _ _ _ _ r os => r.size + os.sum
end
def Pr.kind : Pr → Str
  | .choice _ => "choice"
  | .new _ _ _ => "new"
  | .cond _ _ _ _ => "if"
  | .call _ _ => "call"
/-- the attributes, in the order in which __init__ stores them -/
def pFlds (k : Str) (t : Addr) (d z : Int) : List (Str × V) := putF "size" (.int z) (putF "depth" (.int d) (putF "parts" (.ref t) (putF "kind" (.str k) [])))
theorem n1 : ¬ (("kind" : Str) = "parts") := by decide +kernel
theorem n2 : ¬ (("kind" : Str) = "depth") := by decide +kernel
theorem n3 : ¬ (("kind" : Str) = "size") := by decide +kernel
theorem n4 : ¬ (("parts" : Str) = "depth") := by decide +kernel
theorem n5 : ¬ (("parts" : Str) = "size") := by decide +kernel
theorem n6 : ¬ (("depth" : Str) = "size") := by decide +kernel
theorem pf_kind {k : Str} {t : Addr} {d z : Int} : (pFlds k t d z).lookup ("kind" : Str) = some (.str k) := by
  unfold pFlds
  rw [lookup_putF, if_neg n3, lookup_putF, if_neg n2, lookup_putF, if_neg n1, lookup_putF, if_pos rfl]
theorem pf_parts {k : Str} {t : Addr} {d z : Int} : (pFlds k t d z).lookup ("parts" : Str) = some (.ref t) := by
  unfold pFlds
  rw [lookup_putF, if_neg n5, lookup_putF, if_neg n4, lookup_putF, if_pos rfl]
theorem pf_depth {k : Str} {t : Addr} {d z : Int} : (pFlds k t d z).lookup ("depth" : Str) = some (.int d) := by
  unfold pFlds
  rw [lookup_putF, if_neg n6, lookup_putF, if_pos rfl]
theorem pf_size {k : Str} {t : Addr} {d z : Int} : (pFlds k t d z).lookup ("size" : Str) = some (.int z) := by
  unfold pFlds
  rw [lookup_putF, if_pos rfl]
/-- an instance of the class at C with these parts -/
def InsAt (C : Addr) (H : Hp) (a : Addr) (k : Str) (t : Addr) (d z : Int) : Prop := ∃ dx, H a = some (.ins C dx (pFlds k t d z))
mutual
/-- at a stands the process p -/
def PrAt (C : Addr) (H : Hp) (a : Addr) : Pr → Prop
  | .choice os => ∃ t ps, InsAt C H a "choice" t (1 + os.depth) (max 1 (os.len : Int) + os.sum) ∧ H t = some (.tup ps) ∧ OfsAt C H ps os
  | .new n k r => ∃ t b, InsAt C H a "new" t (1 + r.depth) (1 + r.size) ∧ H t = some (.tup [.str n, .int k, .ref b]) ∧ PrAt C H b r
  | .cond l r y n => ∃ t b c, InsAt C H a "if" t (1 + max y.depth n.depth) (1 + (y.size + n.size)) ∧ H t = some (.tup [l.v, r.v, .ref b, .ref c]) ∧ PrAt C H b y ∧ PrAt C H c n
  | .call n ops => ∃ t u, InsAt C H a "call" t 1 1 ∧ H t = some (.tup [.str n, .ref u]) ∧ H u = some (.tup (ops.map Opd.v))
def OfsAt (C : Addr) (H : Hp) (ps : List V) : Ofs → Prop
  | .nil => ps = []
  | .cons c s m op ns r os => ∃ o u b qs, ps = .ref o :: qs ∧ H o = some (.tup [.str c, .int s, .int m, op.v, .ref u, .ref b]) ∧ H u = some (.tup (ns.map V.str)) ∧ PrAt C H b r ∧ OfsAt C H qs os
end
theorem InsAt.ex {C : Addr} {H H' : Hp} {a : Addr} {k : Str} {t : Addr} {d z : Int} (e : Ex H H') (h : InsAt C H a k t d z) : InsAt C H' a k t d z := by
  obtain ⟨dx, h⟩ := h
  exact ⟨dx, e _ _ h⟩
mutual
theorem PrAt.ex {C : Addr} {H H' : Hp} (e : Ex H H') : ∀ {p : Pr} {a : Addr}, PrAt C H a p → PrAt C H' a p
  | .choice os, a, h => by
    unfold PrAt at h ⊢
    obtain ⟨t, ps, h1, h2, h3⟩ := h
    exact ⟨t, ps, h1.ex e, e _ _ h2, OfsAt.ex e h3⟩
  | .new n k r, a, h => by
    unfold PrAt at h ⊢
    obtain ⟨t, b, h1, h2, h3⟩ := h
    exact ⟨t, b, h1.ex e, e _ _ h2, PrAt.ex e h3⟩
  | .cond l r y n, a, h => by
    unfold PrAt at h ⊢
    obtain ⟨t, b, c, h1, h2, h3, h4⟩ := h
    exact ⟨t, b, c, h1.ex e, e _ _ h2, PrAt.ex e h3, PrAt.ex e h4⟩
  | .call n ops, a, h => by
    unfold PrAt at h ⊢
    obtain ⟨t, u, h1, h2, h3⟩ := h
    exact ⟨t, u, h1.ex e, e _ _ h2, e _ _ h3⟩
theorem OfsAt.ex {C : Addr} {H H' : Hp} (e : Ex H H') : ∀ {os : Ofs} {ps : List V}, OfsAt C H ps os → OfsAt C H' ps os
  | .nil, ps, h => by
    unfold OfsAt at h ⊢
    exact h
  | .cons c s m op ns r os, ps, h => by
    unfold OfsAt at h ⊢
    obtain ⟨o, u, b, qs, h1, h2, h3, h4, h5⟩ := h
    exact ⟨o, u, b, qs, h1, e _ _ h2, e _ _ h3, PrAt.ex e h4, OfsAt.ex e h5⟩
end
/-- whatever the process: its instance -/
theorem PrAt.ins {C : Addr} {H : Hp} {p : Pr} {a : Addr} (h : PrAt C H a p) : ∃ t ps, InsAt C H a p.kind t p.depth p.size ∧ H t = some (.tup ps) := by
  cases p with
  | choice os =>
    unfold PrAt at h
    obtain ⟨t, ps, h1, h2, _⟩ := h
    exact ⟨t, ps, by unfold Pr.kind Pr.depth Pr.size; exact h1, h2⟩
  | new n k r =>
    unfold PrAt at h
    obtain ⟨t, b, h1, h2, _⟩ := h
    exact ⟨t, _, by unfold Pr.kind Pr.depth Pr.size; exact h1, h2⟩
  | cond l r y n =>
    unfold PrAt at h
    obtain ⟨t, b, c, h1, h2, _⟩ := h
    exact ⟨t, _, by unfold Pr.kind Pr.depth Pr.size; exact h1, h2⟩
  | call n ops =>
    unfold PrAt at h
    obtain ⟨t, u, h1, h2, _⟩ := h
    exact ⟨t, _, by unfold Pr.kind Pr.depth Pr.size; exact h1, h2⟩
end Fs

set_option Elab.async false
set_option linter.all false
set_option maxRecDepth 100000
set_option maxHeartbeats 2000000
namespace Fs
open PySem L2 Evl FsE FsC
def topS (i : Nat) : Stmt := PySem.Challenge.pw_fullseats_k06_nets.main.body.getD i (.Pass ⟨0, 0, 0, 0⟩)
/-! ### names -/
def lettersS : Str := "abcdefghijklmnopqrstuvwxyz"
def digitsS : Str := "0123456789"
def reservedV : List V := [.str "stop", .str "new", .str "if", .str "then", .str "else", .str "put", .str "get", .str "channel", .str "at", .str "define", .str "start"]
def signOk (c : Nat) : Bool := decide (c ∈ lettersS.cps.toList) || decide (c ∈ digitsS.cps.toList)
def nameS (z : Str) : Bool := decide (1 ≤ z.length) && decide (z.length ≤ 8) && decide (z.cps.toList.headD 0 ∈ lettersS.cps.toList) && !inV (.str z) reservedV && z.cps.toList.all signOk
def nameV : V → Bool
  | .str z => nameS z
  | _ => false
/-- an operand's kind of value: an int, or a text of a length within the line -/
def OpV : V → Prop
  | .int _ => True
  | .str z => z.length ≤ 40000
  | _ => False
def spPred (f : V → Bool) : Sp := fun vs H Q _ => ∃ v, vs = [v] ∧ OpV v ∧ RetV (.bl (f v)) H Q
def GC (mg : Str → Option Value) (x : Str) (v : V) : Prop := ∃ u, mg x = some u ∧ RelV v u
structure BasT (K : PySem.W.Frag) (mg : Str → Option Value) : Prop where
  letters : GC mg "LETTERS" (.str lettersS)
  digits : GC mg "DIGITS" (.str digitsS)
  nlen : GC mg "NAME_LENGTH" (.int 8)
  reserved : ∃ a, mg "RESERVED" = some (.ref a) ∧ ∀ H, SqT K H a reservedV
  toolong : GC mg "TOO_LONG" (.int (10 ^ 30))
  seats : GC mg "MOST_SEATS" (.int 4)
  isinst : mg "isinstance" = none
  str : mg "str" = none
  int : mg "int" = none
  bool : mg "bool" = none
  len : mg "len" = none
  all : mg "all" = none
theorem str_len (z : Str) : z.length = z.cps.toList.length := by
  unfold Str.length
  rw [Array.length_toList]
section
variable {P : Program} {w : World} {K : PySem.W.Frag} {mg : Str → Option Value} {base : Heap}
theorem scName : FnScope ["text", "sign"] ["text"] (defScope (topS 8)) := ⟨rfl, rfl, rfl, by decide +kernel, rfl, by decide +kernel, by decide +kernel⟩
theorem ok_is_name {f : Addr} {fd : FuncData} (F : Fun K "is_name" "is_name" (topS 8) f fd) (T : BasT K mg) : FnOk P w K mg base CX0 1 f fd ["text"] (spPred nameV) := by
  refine F.ok scName (fun vs H Q E h => ?_) (fun cdv A outer s H vs Q E hr h => ?_)
  · obtain ⟨v, rfl, _⟩ := h
    rfl
  · obtain ⟨v, rfl, hv, k⟩ := h
    obtain ⟨aR, gR, hR⟩ := T.reserved
    refine ⟨_, pss_cons (ps_if (PW.pt (pw_or (pt_not (pt_val (pe_callB call_isi (by rfl) T.isinst (by decide +kernel) (pa_cons (pv 0) (pa_cons (pe_bltn (v := .ty "str") (by rfl) T.str (by decide +kernel) rfl) pa_nil)))))
        (pw_or1 (pt_not (pt_chain op_le op_le pe_int (pe_callB call_len_str (by rfl) T.len PySem.boot_len (pa_cons (pv 0) pa_nil)) (C8.pe_gc (by rfl) T.nlen)))))) (pss_one (ps_ret pe_bl)) pss_nil)
      (pss_cons (ps_if (PW.pt (pw_or (pt_cmpR op_notIn_sign (pe_ix ix_str (pv 0) pe_int (fun _ _ => rfl)) (C8.pe_gc (by rfl) T.letters) (by rfl))
        (pw_or1 (pt_cmpR op_in_seq (pv 0) (pe_glob (v := .ref aR) (by rfl) gR rfl) (by rfl))))) (pss_one (ps_ret pe_bl)) pss_nil)
      (pss_one (ps_ret (pe_callB (cr_all rfl) (by rfl) T.all (by decide +kernel) (pa_cons
        (pe_lc (own := [("sign", 1)]) (g := gName 1) (tt := tYes) rfl scName.nd (pi_str (pv 0)) (blkOk_by (own := [("sign", 1)]) (N := ["text", "sign"]) (sc := defScope (topS 8)) (by decide +kernel))
          (fun _ _ _ _ _ => pg_name (i := 1) scName.nd rfl (Or.inl rfl)) (fun _ _ _ _ _ => pts_nil)
          (fun _ _ _ _ _ => pe_or (pe_cmpR op_in_sign (pv 1) (C8.pe_gc (by rfl) T.letters) (by rfl)) (pe_one (pe_cmpR op_in_sign (pv 1) (C8.pe_gc (by rfl) T.digits) (by rfl))))) pa_nil))))), ?_⟩
    cases v with
    | int i =>
      refine q_when (b := true) (et_is (et_or (et_not (et_B (ev_cb (ea_cons (ev_var rfl) (ea_cons ev_c ea_nil)) (rc_isInt (b := false) (by decide +kernel))))) (fun q => nomatch q) (b := true)) rfl) (fun _ H1 e1 => ?_) (fun q => nomatch q)
      exact s_ret ev_c fun H2 e2 => k H2 (e1.trans e2)
    | str z =>
      have hz : z.length ≤ 40000 := hv
      have hz2 : z.length ≤ sizeLine := sz_of (by omega)
      refine q_when (b := !(decide ((1 : Int) ≤ (z.length : Nat)) && decide (((z.length : Nat) : Int) ≤ 8))) (et_is (et_or (et_not (et_B (ev_cb (ea_cons (ev_var rfl) (ea_cons ev_c ea_nil)) (rc_isStr (b := true) (by decide +kernel)))))
        (fun _ => et_not (et_test (ev_chain ev_c (ev_cb (ea_cons (ev_var rfl) ea_nil) (rc_lenS hz2)) rv_I0 (fun _ => ev_c) (fun _ => rv_I0))))) rfl) (fun hb H1 e1 => ?_) (fun hb H1 e1 => ?_)
      · refine s_ret ev_c fun H2 e2 => ?_
        have e : nameV (.str z) = false := by
          show nameS z = false
          unfold nameS
          have : (decide (1 ≤ z.length) && decide (z.length ≤ 8)) = false := by
            have hb' : ((z.length : Nat) : Int) < 1 ∨ 8 < ((z.length : Nat) : Int) := by simpa using hb
            simp only [Bool.and_eq_false_iff, decide_eq_false_iff_not]
            omega
          rw [this]
          rfl
        have q := k H2 (e1.trans e2)
        rw [e] at q
        exact q
      · have hb' : 1 ≤ z.length ∧ z.length ≤ 8 := by
          have : ((1 : Int) ≤ (z.length : Nat) ∧ ((z.length : Nat) : Int) ≤ 8) := by simpa using hb
          omega
        obtain ⟨c, r, hc⟩ : ∃ c r, z.cps.toList = c :: r := by
          cases e : z.cps.toList with
          | nil =>
            have := str_len z
            rw [e] at this
            simp at this
            omega
          | cons c r => exact ⟨c, r, rfl⟩
        have h0 : atI z.cps.toList 0 = some c := atI_nat (j := 0) (by rw [hc]; rfl)
        refine q_when (b := !decide (c ∈ lettersS.cps.toList) || inV (.str z) reservedV) (et_or (et_test (ev_op (ev_op (ev_var rfl) ev_c (rv_ixS (by omega) h0)) ev_c rv_niSign))
          (fun _ => et_test (ev_op (ev_var rfl) ev_c (rv_isT (hR _) rfl (by decide +kernel))))) (fun hb2 H2 e2 => ?_) (fun hb2 H2 e2 => ?_)
        · refine s_ret ev_c fun H3 e3 => ?_
          have e : nameV (.str z) = false := by
            show nameS z = false
            unfold nameS
            rw [hc]
            have : (decide (c ∈ lettersS.cps.toList) && !inV (.str z) reservedV) = false := by
              rw [Bool.or_eq_true] at hb2
              rcases hb2 with hb2 | hb2
              · have : decide (c ∈ lettersS.cps.toList) = false := by simpa using hb2
                rw [this]
                rfl
              · rw [hb2]
                simp
            show (decide (1 ≤ z.length) && decide (z.length ≤ 8) && decide (c ∈ lettersS.cps.toList) && !inV (.str z) reservedV && (c :: r).all signOk) = false
            rw [Bool.and_assoc (decide (1 ≤ z.length) && decide (z.length ≤ 8)), this]
            simp
          have q := k H3 ((e1.trans e2).trans e3)
          rw [e] at q
          exact q
        · refine s_ret (ev_all (bs := z.cps.toList.map signOk) (by
            rw [List.map_map]
            exact el_lcSm (V.bl ∘ signOk) (ev_var rfl) (by omega) (fun _ => rfl) (fun c H3 _ _ => ev_orV (ev_op (ev_var rfl) ev_c rv_inSign) (fun _ => ev_op (ev_var rfl) ev_c rv_inSign)))) fun H3 e3 => ?_
          have e : nameV (.str z) = (z.cps.toList.map signOk).all id := by
            show nameS z = _
            unfold nameS
            rw [hc]
            rw [Bool.or_eq_false_iff] at hb2
            have a1 : decide (c ∈ lettersS.cps.toList) = true := by simpa using hb2.1
            show (decide (1 ≤ z.length) && decide (z.length ≤ 8) && decide (c ∈ lettersS.cps.toList) && !inV (.str z) reservedV && (c :: r).all signOk) = _
            rw [decide_eq_true hb'.1, decide_eq_true hb'.2, a1, hb2.2, List.all_map]
            rfl
          have q := k H3 ((e1.trans e2).trans e3)
          rw [e] at q
          exact q
    | _ => exact hv.elim
/-! ### integers, operands, seats -/
def intV : V → Bool
  | .int _ => true
  | _ => false
def shortV : V → Bool
  | .int i => decide (-(10 ^ 30) < i) && decide (i < 10 ^ 30)
  | _ => false
def operandV (v : V) : Bool := shortV v || nameV v
def seatsV : V → Bool
  | .int i => decide (1 ≤ i) && decide (i ≤ 4)
  | _ => false
theorem sp_pred {f : V → Bool} {v : V} {H : Hp} (h : OpV v) : SpV (spPred f) [v] H (.bl (f v)) := fun H1 _ Q q E => ⟨v, rfl, h, fun H2 e => q H2 e⟩
theorem scInt : FnScope ["value"] ["value"] (defScope (topS 10)) := ⟨rfl, rfl, rfl, by decide +kernel, rfl, by decide +kernel, by decide +kernel⟩
theorem ok_is_int {f : Addr} {fd : FuncData} (F : Fun K "is_int" "is_int" (topS 10) f fd) (T : BasT K mg) : FnOk P w K mg base CX0 1 f fd ["value"] (spPred intV) := by
  refine F.ok scInt (fun vs H Q E h => ?_) (fun cdv A outer s H vs Q E hr h => ?_)
  · obtain ⟨v, rfl, _⟩ := h
    rfl
  · obtain ⟨v, rfl, hv, k⟩ := h
    refine ⟨_, pss_one (ps_ret (pe_and (pe_callB call_isi (by rfl) T.isinst (by decide +kernel) (pa_cons (pv 0) (pa_cons (pe_bltn (v := .ty "int") (by rfl) T.int (by decide +kernel) rfl) pa_nil)))
      (pe_one (pe_not (pe_callB call_isi (by rfl) T.isinst (by decide +kernel) (pa_cons (pv 0) (pa_cons (pe_bltn (v := .ty "bool") (by rfl) T.bool (by decide +kernel) rfl) pa_nil))))))), ?_⟩
    cases v with
    | int i => exact s_ret (ev_andV (a := true) (b := true) (ev_cb (ea_cons (ev_var rfl) (ea_cons ev_c ea_nil)) (rc_isInt (by decide +kernel)))
        (fun _ => ev_notV (a := false) (ev_cb (ea_cons (ev_var rfl) (ea_cons ev_c ea_nil)) (rc_isInt (by decide +kernel))))) k
    | str z => exact s_ret (ev_andV (a := false) (b := true) (ev_cb (ea_cons (ev_var rfl) (ea_cons ev_c ea_nil)) (rc_isStr (by decide +kernel))) (fun q => nomatch q)) k
    | _ => exact hv.elim
theorem scShort : FnScope ["value"] ["value"] (defScope (topS 11)) := ⟨rfl, rfl, rfl, by decide +kernel, rfl, by decide +kernel, by decide +kernel⟩
theorem ok_is_short {f : Addr} {fd : FuncData} (F : Fun K "is_short" "is_short" (topS 11) f fd) (T : BasT K mg) (GI : CalX P w K mg base CX0 1 "is_int" (spPred intV)) : FnOk P w K mg base CX0 2 f fd ["value"] (spPred shortV) := by
  refine F.ok scShort (fun vs H Q E h => ?_) (fun cdv A outer s H vs Q E hr h => ?_)
  · obtain ⟨v, rfl, _⟩ := h
    rfl
  · obtain ⟨v, rfl, hv, k⟩ := h
    refine ⟨_, pss_one (ps_ret (pe_and (pe_cx (E := fun _ => E0) GI hr (by decide) (by rfl) at0 (pa_cons (pv 0) pa_nil))
      (pe_one (pe_chain op_lt op_lt (pe_un un_neg (C8.pe_gc (by rfl) T.toolong)) (pv 0) (C8.pe_gc (by rfl) T.toolong))))), ?_⟩
    cases v with
    | int i => exact s_ret (ev_andV (a := true) (ev_cx (ea_cons (ev_var rfl) ea_nil) (sp_pred hv)) (fun _ => ev_chain (ev_un ev_c ru_neg) (ev_var rfl) rv_I0 (fun _ => ev_c) (fun _ => rv_I0))) k
    | str z => exact s_ret (ev_andV (a := false) (b := true) (ev_cx (ea_cons (ev_var rfl) ea_nil) (sp_pred hv)) (fun q => nomatch q)) k
    | _ => exact hv.elim
theorem scOperand : FnScope ["part"] ["part"] (defScope (topS 12)) := ⟨rfl, rfl, rfl, by decide +kernel, rfl, by decide +kernel, by decide +kernel⟩
theorem ok_is_operand {f : Addr} {fd : FuncData} (F : Fun K "is_operand" "is_operand" (topS 12) f fd) (GS : CalX P w K mg base CX0 2 "is_short" (spPred shortV)) (GN : CalX P w K mg base CX0 1 "is_name" (spPred nameV)) :
    FnOk P w K mg base CX0 3 f fd ["part"] (spPred operandV) := by
  refine F.ok scOperand (fun vs H Q E h => ?_) (fun cdv A outer s H vs Q E hr h => ?_)
  · obtain ⟨v, rfl, _⟩ := h
    rfl
  · obtain ⟨v, rfl, hv, k⟩ := h
    refine ⟨_, pss_one (ps_ret (pe_or (pe_cx (E := fun _ => E0) GS hr (by decide) (by rfl) at0 (pa_cons (pv 0) pa_nil)) (pe_one (pe_cx (E := fun _ => E0) GN hr (by decide) (by rfl) at0 (pa_cons (pv 0) pa_nil))))), ?_⟩
    exact s_ret (ev_orV (ev_cx (ea_cons (ev_var rfl) ea_nil) (sp_pred hv)) (fun _ => ev_cx (ea_cons (ev_var rfl) ea_nil) (sp_pred hv))) k
theorem scSeats : FnScope ["count"] ["count"] (defScope (topS 13)) := ⟨rfl, rfl, rfl, by decide +kernel, rfl, by decide +kernel, by decide +kernel⟩
theorem ok_is_seats {f : Addr} {fd : FuncData} (F : Fun K "is_seats" "is_seats" (topS 13) f fd) (T : BasT K mg) (GI : CalX P w K mg base CX0 1 "is_int" (spPred intV)) : FnOk P w K mg base CX0 2 f fd ["count"] (spPred seatsV) := by
  refine F.ok scSeats (fun vs H Q E h => ?_) (fun cdv A outer s H vs Q E hr h => ?_)
  · obtain ⟨v, rfl, _⟩ := h
    rfl
  · obtain ⟨v, rfl, hv, k⟩ := h
    refine ⟨_, pss_one (ps_ret (pe_and (pe_cx (E := fun _ => E0) GI hr (by decide) (by rfl) at0 (pa_cons (pv 0) pa_nil))
      (pe_one (pe_chain op_le op_le pe_int (pv 0) (C8.pe_gc (by rfl) T.seats))))), ?_⟩
    cases v with
    | int i => exact s_ret (ev_andV (a := true) (ev_cx (ea_cons (ev_var rfl) ea_nil) (sp_pred hv)) (fun _ => ev_chain ev_c (ev_var rfl) rv_I0 (fun _ => ev_c) (fun _ => rv_I0))) k
    | str z => exact s_ret (ev_andV (a := false) (b := true) (ev_cx (ea_cons (ev_var rfl) ea_nil) (sp_pred hv)) (fun q => nomatch q)) k
    | _ => exact hv.elim
end
end Fs

set_option Elab.async false
set_option linter.all false
set_option maxRecDepth 100000
set_option maxHeartbeats 2000000
namespace Fs
open PySem L2 Evl FsE FsC FsR
/-- the parts of a process, as its tuple holds them -/
def PartsAt (C : Addr) (H : Hp) (ps : List V) : Pr → Prop
  | .choice os => OfsAt C H ps os
  | .new n k r => ∃ b, ps = [.str n, .int k, .ref b] ∧ PrAt C H b r
  | .cond l r y n => ∃ b c, ps = [l.v, r.v, .ref b, .ref c] ∧ PrAt C H b y ∧ PrAt C H c n
  | .call n ops => ∃ u, ps = [.str n, .ref u] ∧ H u = some (.tup (ops.map Opd.v))
theorem PartsAt.ex {C : Addr} {H H' : Hp} {ps : List V} {p : Pr} (e : Ex H H') (h : PartsAt C H ps p) : PartsAt C H' ps p := by
  cases p with
  | choice os => exact OfsAt.ex e h
  | new n k r =>
    obtain ⟨b, h1, h2⟩ := h
    exact ⟨b, h1, h2.ex e⟩
  | cond l r y n =>
    obtain ⟨b, c, h1, h2, h3⟩ := h
    exact ⟨b, c, h1, h2.ex e, h3.ex e⟩
  | call n ops =>
    obtain ⟨u, h1, h2⟩ := h
    exact ⟨u, h1, e _ _ h2⟩
theorem PrAt.mk {C : Addr} {H : Hp} {a t : Addr} {ps : List V} {p : Pr} (h1 : InsAt C H a p.kind t p.depth p.size) (h2 : H t = some (.tup ps)) (h3 : PartsAt C H ps p) : PrAt C H a p := by
  cases p with
  | choice os =>
    unfold PrAt
    unfold Pr.kind Pr.depth Pr.size at h1
    exact ⟨t, ps, h1, h2, h3⟩
  | new n k r =>
    unfold PrAt
    unfold Pr.kind Pr.depth Pr.size at h1
    obtain ⟨b, rfl, h4⟩ := h3
    exact ⟨t, b, h1, h2, h4⟩
  | cond l r y n =>
    unfold PrAt
    unfold Pr.kind Pr.depth Pr.size at h1
    obtain ⟨b, c, rfl, h4, h5⟩ := h3
    exact ⟨t, b, c, h1, h2, h4, h5⟩
  | call n ops =>
    unfold PrAt
    unfold Pr.kind Pr.depth Pr.size at h1
    obtain ⟨u, rfl, h4⟩ := h3
    exact ⟨t, u, h1, h2, h4⟩
theorem PrAt.out {C : Addr} {H : Hp} {a : Addr} {p : Pr} (h : PrAt C H a p) : ∃ t ps, InsAt C H a p.kind t p.depth p.size ∧ H t = some (.tup ps) ∧ PartsAt C H ps p := by
  cases p with
  | choice os =>
    unfold PrAt at h
    obtain ⟨t, ps, h1, h2, h3⟩ := h
    exact ⟨t, ps, by unfold Pr.kind Pr.depth Pr.size; exact h1, h2, h3⟩
  | new n k r =>
    unfold PrAt at h
    obtain ⟨t, b, h1, h2, h3⟩ := h
    exact ⟨t, _, by unfold Pr.kind Pr.depth Pr.size; exact h1, h2, b, rfl, h3⟩
  | cond l r y n =>
    unfold PrAt at h
    obtain ⟨t, b, c, h1, h2, h3, h4⟩ := h
    exact ⟨t, _, by unfold Pr.kind Pr.depth Pr.size; exact h1, h2, b, c, rfl, h3, h4⟩
  | call n ops =>
    unfold PrAt at h
    obtain ⟨t, u, h1, h2, h3⟩ := h
    exact ⟨t, _, by unfold Pr.kind Pr.depth Pr.size; exact h1, h2, u, rfl, h3⟩
/-! ### what is contained directly -/
def Ofs.rests : Ofs → List Pr
  | .nil => []
  | .cons _ _ _ _ _ r os => r :: os.rests
def Pr.inner : Pr → List Pr
  | .choice os => os.rests
  | .new _ _ r => [r]
  | .cond _ _ y n => [y, n]
  | .call _ _ => []
/-- a list of processes, by their addresses -/
def InnAt (C : Addr) (H : Hp) : List V → List Pr → Prop
  | [], [] => True
  | x :: xs, p :: ps => (∃ a, x = .ref a ∧ PrAt C H a p) ∧ InnAt C H xs ps
  | _, _ => False
theorem InnAt.ex {C : Addr} {H H' : Hp} (e : Ex H H') : ∀ {xs : List V} {ps : List Pr}, InnAt C H xs ps → InnAt C H' xs ps
  | [], [], _ => True.intro
  | x :: xs, p :: ps, ⟨⟨a, h1, h2⟩, h3⟩ => ⟨⟨a, h1, h2.ex e⟩, InnAt.ex e h3⟩
  | [], _ :: _, h => h.elim
  | _ :: _, [], h => h.elim
theorem InnAt.get {C : Addr} {H : Hp} : ∀ {xs : List V} {ps : List Pr} {x : V}, InnAt C H xs ps → x ∈ xs → ∃ a p, x = .ref a ∧ PrAt C H a p ∧ p ∈ ps
  | [], _, _, _, hx => nomatch hx
  | y :: xs, [], _, h, _ => h.elim
  | y :: xs, p :: ps, x, ⟨⟨a, h1, h2⟩, h3⟩, hx => by
    rcases List.mem_cons.mp hx with rfl | hx
    · exact ⟨a, p, h1, h2, List.mem_cons_self⟩
    · obtain ⟨b, q, k1, k2, k3⟩ := InnAt.get h3 hx
      exact ⟨b, q, k1, k2, List.mem_cons_of_mem _ k3⟩
theorem InnAt.length {C : Addr} {H : Hp} : ∀ {xs : List V} {ps : List Pr}, InnAt C H xs ps → xs.length = ps.length
  | [], [], _ => rfl
  | x :: xs, p :: ps, ⟨_, h⟩ => congrArg (· + 1) (InnAt.length h)
  | [], _ :: _, h => h.elim
  | _ :: _, [], h => h.elim
theorem Ofs.rests_len : ∀ os : Ofs, os.rests.length = os.len
  | .nil => rfl
  | .cons _ _ _ _ _ r os => congrArg (· + 1) (Ofs.rests_len os)
/-- the greatest depth, the sum of the sizes -/
theorem Ofs.sum_eq : ∀ os : Ofs, os.sum = (os.rests.map Pr.size).sum
  | .nil => rfl
  | .cons _ _ _ _ _ r os => by
    unfold Ofs.sum Ofs.rests
    rw [List.map_cons, List.sum_cons, Ofs.sum_eq os]
mutual
theorem Pr.depth_pos : ∀ p : Pr, 1 ≤ p.depth
  | .choice os => by
    unfold Pr.depth
    have := Ofs.depth_nn os
    omega
  | .new _ _ r => by
    unfold Pr.depth
    have := Pr.depth_pos r
    omega
  | .cond _ _ y n => by
    unfold Pr.depth
    have := Pr.depth_pos y
    have := Pr.depth_pos n
    omega
  | .call _ _ => by
    unfold Pr.depth
    omega
theorem Ofs.depth_nn : ∀ os : Ofs, 0 ≤ os.depth
  | .nil => by
    unfold Ofs.depth
    omega
  | .cons _ _ _ _ _ r os => by
    unfold Ofs.depth
    have := Pr.depth_pos r
    omega
end
theorem maxFrom_ge : ∀ (ys : List Int) (y : Int), maxFrom y ys = max y (maxFrom 0 ys) ∨ (y < 0)
  | [], y => by
    unfold maxFrom
    simp only [List.foldl_nil]
    omega
  | z :: zs, y => by
    have h1 := maxFrom_ge zs (max y z)
    have h2 := maxFrom_ge zs (max 0 z)
    unfold maxFrom at *
    simp only [List.foldl_cons]
    omega
theorem Ofs.depth_eq : ∀ os : Ofs, maxDef 0 (os.rests.map Pr.depth) = os.depth
  | .nil => rfl
  | .cons _ _ _ _ _ r os => by
    unfold Ofs.rests Ofs.depth
    rw [List.map_cons]
    show maxFrom r.depth (os.rests.map Pr.depth) = max r.depth os.depth
    have ih := Ofs.depth_eq os
    have hr := Pr.depth_pos r
    cases hr2 : os.rests.map Pr.depth with
    | nil =>
      rw [hr2] at ih
      have e0 : (0 : Int) = os.depth := ih
      unfold maxFrom
      simp only [List.foldl_nil]
      omega
    | cons y ys =>
      rw [hr2] at ih
      have e0 : maxFrom y ys = os.depth := ih
      have hy : 1 ≤ y := by
        have : y ∈ os.rests.map Pr.depth := by rw [hr2]; exact List.mem_cons_self
        obtain ⟨q, _, rfl⟩ := List.mem_map.mp this
        exact Pr.depth_pos q
      have h1 := maxFrom_ge ys y
      have h2 := maxFrom_ge ys (max r.depth y)
      show maxFrom (max r.depth y) ys = _
      omega
theorem Pr.depth_eq (p : Pr) : 1 + maxDef 0 (p.inner.map Pr.depth) = p.depth := by
  cases p with
  | choice os =>
    unfold Pr.inner Pr.depth
    rw [Ofs.depth_eq]
  | new n k r =>
    unfold Pr.depth
    rfl
  | cond l r y n =>
    unfold Pr.depth
    rfl
  | call n ops =>
    unfold Pr.depth
    rfl
def Pr.own : Pr → Int
  | .choice os => max 1 (os.len : Int)
  | _ => 1
theorem Pr.size_eq (p : Pr) : p.own + (p.inner.map Pr.size).sum = p.size := by
  cases p with
  | choice os =>
    unfold Pr.inner Pr.size Pr.own
    rw [Ofs.sum_eq]
  | new n k r =>
    unfold Pr.size Pr.own Pr.inner
    simp
  | cond l r y n =>
    unfold Pr.size Pr.own Pr.inner
    simp
  | call n ops =>
    unfold Pr.size Pr.own Pr.inner
    simp
theorem OfsAt.len {C : Addr} {H : Hp} : ∀ {os : Ofs} {ps : List V}, OfsAt C H ps os → ps.length = os.len
  | .nil, ps, h => by
    unfold OfsAt at h
    rw [h]
    rfl
  | .cons c s m op ns r os, ps, h => by
    unfold OfsAt at h
    obtain ⟨o, u, b, qs, h1, _, _, _, h5⟩ := h
    rw [h1]
    exact congrArg (· + 1) (OfsAt.len h5)
/-- the rests of the offers -/
theorem OfsAt.rests {C : Addr} {H : Hp} : ∀ {os : Ofs} {ps : List V}, OfsAt C H ps os → ∃ rs : List V, rs.length = ps.length ∧ InnAt C H rs os.rests ∧
    ∀ (i : Nat) (x : V), ps[i]? = some x → ∃ (o : Addr) (c : Str) (s m : Int) (op : Opd) (u : Addr) (y : V), x = .ref o ∧ rs[i]? = some y ∧ H o = some (.tup [.str c, .int s, .int m, op.v, .ref u, y])
  | .nil, ps, h => by
    unfold OfsAt at h
    subst h
    exact ⟨[], rfl, True.intro, fun i x hx => by simp at hx⟩
  | .cons c s m op ns r os, ps, h => by
    unfold OfsAt at h
    obtain ⟨o, u, b, qs, rfl, h2, h3, h4, h5⟩ := h
    obtain ⟨rs, k1, k2, k3⟩ := OfsAt.rests h5
    refine ⟨.ref b :: rs, congrArg (· + 1) k1, ⟨⟨b, rfl, h4⟩, k2⟩, fun i x hx => ?_⟩
    cases i with
    | zero =>
      have e : V.ref o = x := by simpa using hx
      subst e
      exact ⟨o, c, s, m, op, u, .ref b, rfl, rfl, h2⟩
    | succ i =>
      obtain ⟨o', c', s', m', op', u', y', z1, z2, z3⟩ := k3 i x (by simpa using hx)
      exact ⟨o', c', s', m', op', u', y', z1, by simpa using z2, z3⟩
/-- rs: what a process with these parts contains directly -/
def InnOf (C : Addr) (H : Hp) (ps rs : List V) : Pr → Prop
  | .choice os => rs.length = ps.length ∧ InnAt C H rs os.rests ∧
    ∀ (i : Nat) (x : V), ps[i]? = some x → ∃ (o : Addr) (c : Str) (s m : Int) (op : Opd) (u : Addr) (y : V), x = .ref o ∧ rs[i]? = some y ∧ H o = some (.tup [.str c, .int s, .int m, op.v, .ref u, y])
  | .new n k r => ∃ b, ps = [.str n, .int k, .ref b] ∧ rs = [.ref b] ∧ PrAt C H b r
  | .cond l r y n => ∃ b c, ps = [l.v, r.v, .ref b, .ref c] ∧ rs = [.ref b, .ref c] ∧ PrAt C H b y ∧ PrAt C H c n
  | .call n ops => ∃ u, ps = [.str n, .ref u] ∧ rs = [] ∧ H u = some (.tup (ops.map Opd.v))
theorem InnOf.ex {C : Addr} {H H' : Hp} {ps rs : List V} {p : Pr} (e : Ex H H') (h : InnOf C H ps rs p) : InnOf C H' ps rs p := by
  cases p with
  | choice os =>
    obtain ⟨h1, h2, h3⟩ := h
    refine ⟨h1, h2.ex e, fun i x hx => ?_⟩
    obtain ⟨o, c, s, m, op, u, y, z1, z2, z3⟩ := h3 i x hx
    exact ⟨o, c, s, m, op, u, y, z1, z2, e _ _ z3⟩
  | new n k r =>
    obtain ⟨b, h1, h2, h3⟩ := h
    exact ⟨b, h1, h2, h3.ex e⟩
  | cond l r y n =>
    obtain ⟨b, c, h1, h2, h3, h4⟩ := h
    exact ⟨b, c, h1, h2, h3.ex e, h4.ex e⟩
  | call n ops =>
    obtain ⟨u, h1, h2, h3⟩ := h
    exact ⟨u, h1, h2, e _ _ h3⟩
theorem PartsAt.inn {C : Addr} {H : Hp} {ps : List V} {p : Pr} (h : PartsAt C H ps p) : ∃ rs, InnOf C H ps rs p := by
  cases p with
  | choice os =>
    obtain ⟨rs, h1, h2, h3⟩ := OfsAt.rests h
    exact ⟨rs, h1, h2, h3⟩
  | new n k r =>
    obtain ⟨b, h1, h2⟩ := h
    exact ⟨[.ref b], b, h1, rfl, h2⟩
  | cond l r y n =>
    obtain ⟨b, c, h1, h2, h3⟩ := h
    exact ⟨[.ref b, .ref c], b, c, h1, rfl, h2, h3⟩
  | call n ops =>
    obtain ⟨u, h1, h2⟩ := h
    exact ⟨[], u, h1, rfl, h2⟩
theorem InnOf.at {C : Addr} {H : Hp} {ps rs : List V} {p : Pr} (h : InnOf C H ps rs p) : InnAt C H rs p.inner := by
  cases p with
  | choice os => exact h.2.1
  | new n k r =>
    obtain ⟨b, _, rfl, h3⟩ := h
    exact ⟨⟨b, rfl, h3⟩, True.intro⟩
  | cond l r y n =>
    obtain ⟨b, c, _, rfl, h3, h4⟩ := h
    exact ⟨⟨b, rfl, h3⟩, ⟨c, rfl, h4⟩, True.intro⟩
  | call n ops =>
    obtain ⟨u, _, rfl, _⟩ := h
    exact True.intro
theorem InnAt.at_ {C : Addr} {H : Hp} : ∀ {xs : List V} {ps : List Pr} {i : Nat} {x : V}, InnAt C H xs ps → xs[i]? = some x → ∃ a p, x = .ref a ∧ PrAt C H a p ∧ ps[i]? = some p
  | [], _, _, _, _, hx => by simp at hx
  | y :: xs, [], _, _, h, _ => h.elim
  | y :: xs, p :: ps, 0, x, ⟨⟨a, h1, h2⟩, h3⟩, hx => by
    have e : y = x := by simpa using hx
    subst e
    exact ⟨a, p, h1, h2, rfl⟩
  | y :: xs, p :: ps, i + 1, x, ⟨_, h3⟩, hx => by
    obtain ⟨b, q, k1, k2, k3⟩ := InnAt.at_ (i := i) h3 (by simpa using hx)
    exact ⟨b, q, k1, k2, by simpa using k3⟩
end Fs

set_option Elab.async false
set_option linter.all false
set_option maxRecDepth 100000
set_option maxHeartbeats 2000000
namespace Fs
open PySem L2 Evl FsE FsC FsR
/-! ### what raises: an own error of one argument -/
/-- X(e) made, to be raised: its own dict d, new, holds the argument under f -/
def tMkE (C : Addr) (f : Str) (ta : TA) : L2.St → Hp → XK → Prop := fun σ H Q => ta σ H fun vs H1 => ∃ z : Str, vs = [.str z] ∧ z.length ≤ 1000 ∧ ∀ d, H1 d = none → Q (.ref C) (some d) (upd H1 d (.xd [(f, .str z)]))
/-- the class x at C makes such errors -/
def RaisesX (P : Program) (w : World) (K : PySem.W.Frag) (mg : Str → Option Value) (base : Heap) (x : Str) (C : Addr) (f : Str) (k : Nat) : Prop :=
  ∀ (X : Cx), X.prog = P → X.w = w → X.K = K → X.mg = mg → X.base = base → Room k X.A → ∀ (a : Expr) (ta : TA) (p pos : Pos), PA X [a] ta → Gl X x → starEach (a :: []) X.env = (false, eval a X.env) :: starEach [] X.env → (backTo pos (starEach [] X.env)).any (·.1) = false →
    PMk X (.Call (.Name x p) [a] [] pos) (tMkE C f ta)
/-- what the text has told of the terms' module -/
structure TerT (K : PySem.W.Frag) (mg : Str → Option Value) (C CB : Addr) : Prop where
  cl : Cls K C
  nK : NoAttr K C "kind"
  nP : NoAttr K C "parts"
  nD : NoAttr K C "depth"
  nS : NoAttr K C "size"
  mgC : mg "Process" = some (.ref C)
  kStr : PySem.W.kitOne K (.type "str") (.ref C) = some false
  kInt : PySem.W.kitOne K (.type "int") (.ref C) = some false
  kTup : PySem.W.kitOne K (.type "tuple") (.ref C) = some false
  ha : PySem.W.findIn K (.ref C) "__class__" = some (some (.builtin "object.__class__"))
  hn : PySem.W.specialIn K (.builtin "object.__class__") "__get__" = some (some (.builtin "getset_descriptor.__get__"))
  htk : PySem.W.takesIn K (.builtin "object.__class__") = some true
  hm : PySem.W.mroIn K C (.type "object") = some true
  sum : mg "sum" = none
  max : mg "max" = none
  tuple : mg "tuple" = none
  depth : GC mg "MOST_DEPTH" (.int 20)
  size : GC mg "MOST_SIZE" (.int 400)
theorem kOwn {K : PySem.W.Frag} {C : Addr} : PySem.W.kitOne K (.ref C) (.ref C) = some true := by
  unfold PySem.W.kitOne
  rw [if_pos (beq_self_eq_true _)]
/-- what is raised: the field f -/
def Bad (CB : Addr) (f : Str) (H : Hp) (E : XK) : Prop := ∀ (d : Addr) (H' : Hp), Ex H H' → H d = none → H' d = some (.xd [("field", .str f)]) → E (.ref CB) (some d) H'
theorem Bad.ex {CB : Addr} {f : Str} {H H' : Hp} {E : XK} (e : Ex H H') (h : Bad CB f H E) : Bad CB f H' E := fun d H2 e2 hd h2 => h d H2 (e.trans e2) (fresh_back e hd) h2
/-- demand(allowed, field) -/
def spDemand (CB : Addr) : Sp := fun vs H Q E => ∃ (b : Bool) (f : Str), vs = [.bl b, .str f] ∧ f.length ≤ 1000 ∧ (b = true → RetV .non H Q) ∧ (b = false → Bad CB f H E)
section
variable {P : Program} {w : World} {K : PySem.W.Frag} {mg : Str → Option Value} {base : Heap} {C CB : Addr}
theorem scDemand : FnScope ["allowed", "field"] ["allowed", "field"] (defScope (topS 23)) := ⟨rfl, rfl, rfl, by decide +kernel, rfl, by decide +kernel, by decide +kernel⟩
theorem ok_demand {f : Addr} {fd : FuncData} {k : Nat} (F : Fun K "demand" "demand" (topS 23) f fd) (R : RaisesX P w K mg base "BadTerm" CB "field" k) : FnOk P w K mg base (L2.CX P w) (k + 1) f fd ["allowed", "field"] (spDemand CB) := by
  refine F.okX scDemand (fun vs H Q E h => ?_) (fun cdv A outer s H vs Q E hr h => ?_)
  · obtain ⟨b, z, rfl, _⟩ := h
    rfl
  · obtain ⟨b, z, rfl, hz, k1, k2⟩ := h
    refine ⟨_, pss_one (ps_if (pt_not (pt_val (pv 0))) (pss_one (ps_raise (W := fun cls d _ H => E cls d H) rfl (takes_of rfl rfl rfl rfl) (R _ rfl rfl rfl rfl rfl hr _ _ _ _ (pa_cons (pv 1) pa_nil) (by rfl) (by rfl) (by rfl)))) pss_nil), ?_⟩
    refine s_if (et_not (et_B (ev_var rfl))) (fun hb H1 e1 => ?_) (fun hb H1 e1 => ?_)
    · have hb' : b = false := by simpa using hb
      refine ⟨_, rfl, z, rfl, hz, fun d hd => ?_⟩
      exact k2 hb' d _ (e1.trans (Ex.new hd)) (fresh_back e1 hd) upd_same
    · have hb' : b = true := by simpa using hb
      exact k1 hb' H1 e1
/-- demand(e, 'f') as a statement, what follows behind it -/
theorem q_demand {σ : L2.St} {H : Hp} {te : TE} {f : Str} {b : Bool} {E : L2.St → XK} {tz : TS} {D : Ends} (hf : f.length ≤ 1000) (h : Ev te σ H (.bl b)) (k1 : b = true → ∀ H1, Ex H H1 → tz D σ H1) (k2 : b = false → Bad CB f H (E σ)) :
    tSeq (tDrop (tCallS (spDemand CB) E (tCons te (tCons (tC (.str f)) tNil)))) tz D σ H :=
  h H (Ex.refl H) _ fun H1 e1 => ⟨b, f, rfl, hf, fun hb H2 e2 => k1 hb H2 (e1.trans e2), fun hb => (k2 hb).ex e1⟩
theorem s_demand {σ : L2.St} {H : Hp} {te : TE} {f : Str} {b : Bool} {E : L2.St → XK} {D : Ends} (hf : f.length ≤ 1000) (h : Ev te σ H (.bl b)) (k1 : b = true → ∀ H1, Ex H H1 → D.nx σ H1) (k2 : b = false → Bad CB f H (E σ)) :
    tDrop (tCallS (spDemand CB) E (tCons te (tCons (tC (.str f)) tNil))) D σ H :=
  h H (Ex.refl H) _ fun H1 e1 => ⟨b, f, rfl, hf, fun hb H2 e2 => k1 hb H2 (e1.trans e2), fun hb => (k2 hb).ex e1⟩
/-! ### what a process contains -/
theorem kNew : decide (V.str "new" = V.str "choice") = false := by decide +kernel
theorem kIf : decide (V.str "if" = V.str "choice") = false := by decide +kernel
theorem kCall : decide (V.str "call" = V.str "choice") = false := by decide +kernel
def spInner (C : Addr) : Sp := fun vs H Q _ => ∃ (p : Pr) (t : Addr) (ps rs : List V), vs = [.str p.kind, .ref t] ∧ H t = some (.tup ps) ∧ ps.length ≤ 100 ∧ InnOf C H ps rs p ∧ RetL rs H Q
theorem sp_inner {p : Pr} {t : Addr} {ps rs : List V} {H : Hp} (h1 : H t = some (.tup ps)) (h2 : ps.length ≤ 100) (h3 : InnOf C H ps rs p) : SpL (spInner C) [.str p.kind, .ref t] H rs := fun H1 e Q q E =>
  ⟨p, t, ps, rs, rfl, e _ _ h1, h2, h3.ex e, q⟩
theorem scInner : FnScope ["kind", "parts", "offer", "part"] ["kind", "parts"] (defScope (topS 24)) := ⟨rfl, rfl, rfl, by decide +kernel, rfl, by decide +kernel, by decide +kernel⟩
theorem tyx_pr (T : TerT K mg C CB) {H : Hp} {a : Addr} {p : Pr} (h : PrAt C H a p) : ∀ H1, Ex H H1 → TyX K H1 (.ref a) (.ref C) := fun H1 e => by
  obtain ⟨t, ps, ⟨dx, h1⟩, _⟩ := h.out
  exact .base (.ins (e _ _ h1) T.cl T.ha T.hn T.htk T.hm)
theorem tyx_opd (T : TerT K mg C CB) {H : Hp} (o : Opd) : ∃ t, (∀ H1, Ex H H1 → TyX K H1 o.v t) ∧ PySem.W.kitOne K t (.ref C) = some false := by
  cases o with
  | int i => exact ⟨_, fun _ _ => .base (.int i), T.kInt⟩
  | nm z => exact ⟨_, fun _ _ => .base (.str z), T.kStr⟩
theorem et_isPr {σ : L2.St} {H : Hp} {i : Nat} {x : V} {t : Value} {b : Bool} (hx : σ[i]? = some (some x)) (ht : ∀ H1, Ex H H1 → TyX K H1 x t) (hk : PySem.W.kitOne K t (.ref C) = some b) :
    EvT (L2.tB (tCB (rIsi K) (tCons (tVar i) (tCons (tC (.ref C)) tNil)))) σ H b := et_B (ev_cb (ea_cons (ev_var hx) (ea_cons ev_c ea_nil)) (rc_isiOwn ht hk))
theorem ok_inner {f : Addr} {fd : FuncData} (F : Fun K "inner_processes" "inner_processes" (topS 24) f fd) (B : BasT K mg) (T : TerT K mg C CB) : FnOk P w K mg base CX0 1 f fd ["kind", "parts"] (spInner C) := by
  refine F.ok scInner (fun vs H Q E h => ?_) (fun cdv A outer s H vs Q E hr h => ?_)
  · obtain ⟨p, t, ps, rs, rfl, _⟩ := h
    rfl
  · obtain ⟨p, t, ps, rs, rfl, ht, hl, hI, k⟩ := h
    refine ⟨_, pss_cons (ps_if (pt_cmpR op_eq (pv 0) pe_str (nomark _)) (pss_one (ps_ret (pe_lc (own := [("offer", 2)]) (g := gName 2) (tt := tYes) rfl scInner.nd (pi_tup (pv 1)) (blkOk_by (own := [("offer", 2)]) (N := ["kind", "parts", "offer", "part"]) (sc := defScope (topS 24)) (by decide +kernel))
          (fun _ _ _ _ _ => pg_name (i := 2) scInner.nd rfl (Or.inl rfl)) (fun _ _ _ _ _ => pts_nil) (fun _ _ _ _ _ => pe_ix (r := rIxT K) ix_tup (pv 2) (pe_un un_neg pe_int) (fun _ _ => rfl))))) pss_nil)
      (pss_one (ps_ret (pe_lc (own := [("part", 3)]) (g := gName 3) (tt := L2.tB (tCB (rIsi K) (tCons (tVar 3) (tCons (tC (.ref C)) tNil)))) rfl scInner.nd (pi_tup (pv 1)) (blkOk_by (own := [("part", 3)]) (N := ["kind", "parts", "offer", "part"]) (sc := defScope (topS 24)) (by decide +kernel))
          (fun _ _ _ _ _ => pg_name (i := 3) scInner.nd rfl (Or.inl rfl)) (fun _ _ _ _ _ => pts_one (pt_val (pe_callB (id := "isinstance") (r := rIsi K) call_isi (by rfl) B.isinst (by decide +kernel) (pa_cons (pv 3) (pa_cons (pe_glob (v := .ref C) (by rfl) T.mgC rfl) pa_nil))))) (fun _ _ _ _ _ => pv 3)))), ?_⟩
    cases p with
    | choice os =>
      refine q_if (b := true) (et_test (ev_op (ev_var rfl) ev_c (rv_eq rfl))) (fun _ H1 e1 => ?_) (fun q => nomatch q)
      obtain ⟨h1, h2, h3⟩ := hI.ex e1
      refine s_retL (el_lcTy (ev_var rfl) (st_of (e1 _ _ ht)) (by omega) (fun _ => rfl) h1 (fun i x y H2 e2 hx hy => ?_)) (fun q H2 hq e2 h2 => k q H2 (fresh_back e1 hq) (e1.trans e2) h2)
      obtain ⟨o, c, s, m, op, u, y', rfl, z2, z3⟩ := h3 i x hx
      have e : y' = y := by
        rw [hy] at z2
        exact (Option.some.inj z2).symm
      subst e
      exact ev_op (ev_var rfl) (ev_un ev_c ru_neg) (rv_ixT (st_of (e2 _ _ z3)) rfl)
    | new n kk r =>
      refine q_if (b := false) (et_is (et_test (ev_op (ev_var rfl) ev_c (rv_eq rfl))) kNew) (fun q => nomatch q) (fun _ H1 e1 => ?_)
      obtain ⟨b, rfl, rfl, hb⟩ := hI.ex e1
      refine s_retL (xs := [.ref b]) (el_lcT (fun i => decide (i = 2)) (fun i => .ref b) (ev_var rfl) (st_of (e1 _ _ ht)) (by show 3 ≤ 40000; decide) (fun _ => rfl) (fun i x H2 e2 hx => ?_) (fun i x H2 e2 hx hi => ?_)) (fun q H2 hq e2 h2 => k q H2 (fresh_back e1 hq) (e1.trans e2) h2)
      · match i, hx with
        | 0, hx => cases hx; exact et_isPr rfl (fun _ _ => .base (.str n)) T.kStr
        | 1, hx => cases hx; exact et_isPr rfl (fun _ _ => .base (.int kk)) T.kInt
        | 2, hx => cases hx; exact et_isPr rfl (tyx_pr T (hb.ex e2)) kOwn
      · match i, hx, hi with
        | 2, hx, _ => cases hx; exact ev_var rfl
    | cond l r y n =>
      refine q_if (b := false) (et_is (et_test (ev_op (ev_var rfl) ev_c (rv_eq rfl))) kIf) (fun q => nomatch q) (fun _ H1 e1 => ?_)
      obtain ⟨b, c, rfl, rfl, hb, hc⟩ := hI.ex e1
      refine s_retL (xs := [.ref b, .ref c]) (el_lcT (fun i => decide (2 ≤ i)) (fun i => if i = 2 then .ref b else .ref c) (ev_var rfl) (st_of (e1 _ _ ht)) (by show 4 ≤ 40000; decide) (fun _ => rfl) (fun i x H2 e2 hx => ?_) (fun i x H2 e2 hx hi => ?_)) (fun q H2 hq e2 h2 => k q H2 (fresh_back e1 hq) (e1.trans e2) h2)
      · match i, hx with
        | 0, hx => cases hx; obtain ⟨t, h1, h2⟩ := tyx_opd T l; exact et_isPr rfl h1 h2
        | 1, hx => cases hx; obtain ⟨t, h1, h2⟩ := tyx_opd T r; exact et_isPr rfl h1 h2
        | 2, hx => cases hx; exact et_isPr rfl (tyx_pr T (hb.ex e2)) kOwn
        | 3, hx => cases hx; exact et_isPr rfl (tyx_pr T (hc.ex e2)) kOwn
      · match i, hx, hi with
        | 2, hx, _ => cases hx; exact ev_var rfl
        | 3, hx, _ => cases hx; exact ev_var rfl
    | call n ops =>
      refine q_if (b := false) (et_is (et_test (ev_op (ev_var rfl) ev_c (rv_eq rfl))) kCall) (fun q => nomatch q) (fun _ H1 e1 => ?_)
      obtain ⟨u, rfl, rfl, hu⟩ := hI.ex e1
      refine s_retL (xs := []) (el_lcT (fun i => false) (fun i => .non) (ev_var rfl) (st_of (e1 _ _ ht)) (by show 2 ≤ 40000; decide) (fun _ => rfl) (fun i x H2 e2 hx => ?_) (fun i x H2 e2 hx hi => nomatch hi)) (fun q H2 hq e2 h2 => k q H2 (fresh_back e1 hq) (e1.trans e2) h2)
      match i, hx with
      | 0, hx => cases hx; exact et_isPr rfl (fun _ _ => .base (.str n)) T.kStr
      | 1, hx => cases hx; exact et_isPr rfl (fun H3 e3 => .base (.tup (e3 _ _ (e2 _ _ hu)))) T.kTup
end
end Fs

set_option Elab.async false
set_option linter.all false
set_option maxRecDepth 100000
set_option maxHeartbeats 4000000
/-! == of tuples and of own instances, whatever the answer. -/
namespace FsQ
open PySem PySem.SeqAt
open AutoSeq1 (wpAny_loadPart')
open MeetsSeq MeetsSeq2 MeetsSeq3 SeqRoads2
open GQ
section
variable {prog : Program} {w : World} {A : Around} {R : Result → Shared → Prop}
theorem all_upto {e : Nat → Bool} {m : Nat} (h : ∀ j, j < m → e j = true) : (List.range m).all e = true := List.all_eq_true.mpr fun j hj => h j (List.mem_range.mp hj)
theorem not_all {e : Nat → Bool} {m i : Nat} (hi : i < m) (h : e i = false) : (List.range m).all e = false := by
  cases z : (List.range m).all e with
  | false => rfl
  | true =>
    have := List.all_eq_true.mp z i (List.mem_range.mpr hi)
    rw [h] at this
    cases this
/-- the walk over two tuples, the answer of each pair told -/
theorem tuple_any (l b : Addr) (xs ys : Array Value) (n n2 : Nat) (dd dd2 : Option Addr) (sl sl2 : Array (Option Value)) (e : Nat → Bool) (I : Nat → Shared → Prop)
    (pair : ∀ i (h1 : i < xs.size) (h2 : i < ys.size) s, I i s → wpAny (model prog w) A.in1 (eqBool xs[i] ys[i]) (fun r s' => r = e i ∧ I (i + 1) s') (fun z s' => R (.error z) s') s)
    (ends : ∀ i s, I i s → R (.ok (.ret (.bool ((List.range (min xs.size ys.size)).all e && (xs.size == ys.size))))) s) {s : Shared} (ha : s.heap.get? l = some { cls := .type "tuple", dict := dd, data := .seq xs n, slots := sl }) (hb : s.heap.get? b = some { cls := .type "tuple", dict := dd2, data := .seq ys n2, slots := sl2 }) (h0 : I 0 s) :
    wpAny (model prog w) A.in1 (Builtin.«tuple.__eq__» ⟨[.ref l, .ref b], []⟩) (FinOf prog w A R) (fun z s' => R (.error z) s') s := by
  have sub := AutoSeq1.sub_tuple_tuple
  have len : (xs.toList.zip ys.toList).length = min xs.size ys.size := by simp
  have start := h0
  obtain ⟨hp, g, d, tk, os⟩ := s
  wp_walk using wpAny_loadPart' ha, wpAny_loadPart' hb, wpAny_forIn_list _ (fun left acc s' => acc.1 = none ∧ ∃ i, left = (xs.toList.zip ys.toList).drop i ∧ i ≤ min xs.size ys.size ∧ (∀ j, j < i → e j = true) ∧ I i s') _
  case h => exact ⟨rfl, 0, rfl, Nat.zero_le _, fun j hj => absurd hj (Nat.not_lt_zero j), start⟩
  case turn =>
    rintro ⟨u, v⟩ left acc s' ⟨_, i, hz, _, hall, hI⟩
    have hi : i < (xs.toList.zip ys.toList).length := Nat.lt_of_not_le fun z => by
      rw [List.drop_of_length_le z] at hz
      cases hz
    have him : i < min xs.size ys.size := len ▸ hi
    have h1 : i < xs.size := Nat.lt_of_lt_of_le him (Nat.min_le_left _ _)
    have h2 : i < ys.size := Nat.lt_of_lt_of_le him (Nat.min_le_right _ _)
    rw [List.drop_eq_getElem_cons hi] at hz
    injection hz with hp0 hleft
    obtain rfl : u = xs[i] := by have := congrArg Prod.fst hp0; simpa using this
    obtain rfl : v = ys[i] := by have := congrArg Prod.snd hp0; simpa using this
    refine wpAny_bind (wpAny_mono (pair i h1 h2 s' hI) (fun r s2 ⟨hr, hI2⟩ => ?_) fun _ _ z => z)
    subst hr
    cases he : e i with
    | true =>
      wp_walk
      refine ⟨rfl, i + 1, hleft, him, fun j hj => ?_, hI2⟩
      by_cases z : j = i
      · rw [z, he]
      · exact hall j (by omega)
    | false =>
      have out := ends (i + 1) s2 hI2
      rw [not_all him he, Bool.false_and] at out
      wp_walk
      exact out
  case fin =>
    rintro ⟨a1, a2⟩ s' ⟨ha1, i, hz, hi, hall, hI⟩
    simp only at ha1
    subst ha1
    have hge : min xs.size ys.size ≤ i := Nat.le_of_not_lt fun z => by
      rw [List.drop_eq_getElem_cons (len ▸ z)] at hz
      cases hz
    obtain rfl : i = min xs.size ys.size := by omega
    have out := ends _ s' hI
    rw [all_upto hall, Bool.true_and] at out
    wp_walk
    simpa [Builtin.Tuple.tupleCompareSizes] using out
end
section
variable {prog : Program} {w : World} {A : Around} {E : Value → Shared → Prop} {s : Shared}
theorem rc_tuple_any {l b : Addr} {xs ys : Array Value} {e : Nat → Bool} {Q : Value → Shared → Prop} (hu : A.units < cLine) (I : Nat → Shared → Prop) (hl : s.heap.IsTuple l xs) (hb : s.heap.IsTuple b ys)
    (pair : ∀ i (h1 : i < xs.size) (h2 : i < ys.size) s, I i s → wpAny (model prog w) A.in1 (eqBool xs[i] ys[i]) (fun r s' => r = e i ∧ I (i + 1) s') E s)
    (ends : ∀ i s, I i s → Q (.bool ((List.range (min xs.size ys.size)).all e && (xs.size == ys.size))) s) (h0 : I 0 s) : wpAny (model prog w) A (richCompare .Eq (.ref l) (.ref b)) Q E s := by
  obtain ⟨⟨c1, d1, t1, s1⟩, o1, k1, n1, z1⟩ := id hl
  obtain ⟨⟨c2, d2, t2, s2⟩, o2, k2, n2, z2⟩ := id hb
  simp only at k1 z1 k2 z2
  subst k1 z1 k2 z2
  refine wpAny_richCompare_same_room (op := .Eq) ⟨_, o1, rfl⟩ ⟨_, o2, rfl⟩ F.slot_tuple_eq (call_here F.slot_tuple_eq ⟨_, o1, rfl⟩ F.entry_tuple_eq (F.args_tuple_eq_2 _ _) ?_) hu
  exact tuple_any (R := wants (fun v s' => v ≠ .notImplemented ∧ Q v s') E) l b xs ys n1 n2 d1 d2 s1 s2 e I pair (fun i s' q => ⟨(fun z => nomatch z), ends i s' q⟩) o1 o2 h0
end
end FsQ
namespace FsQ
open PySem PySem.Spec PyProof.Rows L2
/-- how two values compare, by the abstract heap -/
abbrev Cmp := V → V → Bool → Hp → Prop
def MonB (D : Cmp) : Prop := ∀ x y b H H', Ext H H' → D x y b H → D x y b H'
def EqB (X : Cx) (n : Nat) (D : Cmp) : Prop := ∀ (A : Around) (pins : List (Addr × Obj)) (s : Shared) (σ : L2.St) (H : Hp) (x y : V) (u v : Value) (b : Bool), Sub X n A → Inv X pins σ H s → RelV x u → RelV y v → D x y b H →
  wpAny (model X.prog X.w) A (eqBool u v) (fun r s' => r = b ∧ ∃ H', Inv X pins σ H' s' ∧ Ext H H') X.xe s
def RcB (X : Cx) (n : Nat) (D : Cmp) : Prop := ∀ (A : Around) (pins : List (Addr × Obj)) (s : Shared) (σ : L2.St) (H : Hp) (x y : V) (u v : Value) (b : Bool), Sub X n A → Inv X pins σ H s → RelV x u → RelV y v → D x y b H →
  wpAny (model X.prog X.w) A (richCompare .Eq u v) (fun r s' => r = .bool b ∧ ∃ H', Inv X pins σ H' s' ∧ Ext H H') X.xe s
/-- pair by pair, as far as both reach -/
def ZipB (D : Cmp) : List V → List V → List Bool → Hp → Prop
  | x :: xs, y :: ys, b :: bs, H => D x y b H ∧ ZipB D xs ys bs H
  | [], _, [], _ => True
  | _ :: _, [], [], _ => True
  | _, _, _, _ => False
def CFlat : Cmp := fun x y b _ => flatV x = true ∧ flatV y = true ∧ eqV x y = b
def CTup (D : Cmp) : Cmp := fun x y b H => ∃ a c xs ys bs, x = .ref a ∧ y = .ref c ∧ H a = some (.tup xs) ∧ H c = some (.tup ys) ∧ ZipB D xs ys bs H ∧ b = (bs.all id && (xs.length == ys.length))
def CIns (C : Addr) (R : Addr → Addr → Bool → Hp → Prop) : Cmp := fun x y b H => ∃ a c dx dy fs gs, x = .ref a ∧ y = .ref c ∧ H a = some (.ins C dx fs) ∧ H c = some (.ins C dy gs) ∧ R a c b H
/-- what the own == promises -/
def spEqB (R : Addr → Addr → Bool → Hp → Prop) : Sp := fun vs H Q _ => ∃ a c b, vs = [.ref a, .ref c] ∧ R a c b H ∧ ∀ H', Ext H H' → Q (.bl b) H'
section
variable {X : Cx} {n m : Nat} {D D' : Cmp}
theorem EqB.mono (h : EqB X n D) (hn : n ≤ m) : EqB X m D := fun A pins s σ H x y u v b sb => h A pins s σ H x y u v b (sb.mono hn)
theorem EqB.or (h : EqB X n D) (h' : EqB X n D') : EqB X n (fun x y b H => D x y b H ∨ D' x y b H) := fun A pins s σ H x y u v b sb I rx ry d => d.elim (h A pins s σ H x y u v b sb I rx ry) (h' A pins s σ H x y u v b sb I rx ry)
theorem MonB.or (h : MonB D) (h' : MonB D') : MonB (fun x y b H => D x y b H ∨ D' x y b H) := fun x y b H H' e d => d.elim (fun d => .inl (h x y b H H' e d)) fun d => .inr (h' x y b H H' e d)
theorem ZipB.mon (hD : MonB D) {H H' : Hp} (e : Ext H H') : ∀ {xs ys : List V} {bs : List Bool}, ZipB D xs ys bs H → ZipB D xs ys bs H'
  | _ :: _, _ :: _, _ :: _, h => ⟨hD _ _ _ _ _ e h.1, ZipB.mon hD e h.2⟩
  | [], _, [], _ => trivial
  | _ :: _, [], [], _ => trivial
  | [], [], _ :: _, h => h.elim
  | [], _ :: _, _ :: _, h => h.elim
  | _ :: _, [], _ :: _, h => h.elim
  | _ :: _, _ :: _, [], h => h.elim
theorem ZipB.len {H : Hp} : ∀ {xs ys : List V} {bs : List Bool}, ZipB D xs ys bs H → bs.length = min xs.length ys.length
  | _ :: _, _ :: _, _ :: _, h => by
    have := ZipB.len h.2
    simp only [List.length_cons]
    omega
  | [], _, [], _ => by simp
  | _ :: _, [], [], _ => by simp
  | [], [], _ :: _, h => h.elim
  | [], _ :: _, _ :: _, h => h.elim
  | _ :: _, [], _ :: _, h => h.elim
  | _ :: _, _ :: _, [], h => h.elim
theorem ZipB.get {H : Hp} : ∀ {xs ys : List V} {bs : List Bool} {i : Nat} {x y : V}, ZipB D xs ys bs H → xs[i]? = some x → ys[i]? = some y → ∃ b, bs[i]? = some b ∧ D x y b H
  | _ :: _, _ :: _, b :: _, 0, _, _, h, h1, h2 => by
    cases h1
    cases h2
    exact ⟨b, rfl, h.1⟩
  | _ :: _, _ :: _, _ :: _, i + 1, _, _, h, h1, h2 => ZipB.get (i := i) h.2 h1 h2
  | [], _, _, _, _, _, _, h1, _ => by simp at h1
  | _ :: _, [], _, _, _, _, _, _, h2 => by simp at h2
  | _ :: _, _ :: _, [], _, _, _, h, _, _ => h.elim
theorem all_getD : ∀ (bs : List Bool), (List.range bs.length).all (fun i => bs.getD i true) = bs.all id
  | [] => rfl
  | b :: bs => by
    rw [List.length_cons, List.range_succ_eq_map, List.all_cons, List.all_cons, List.all_map]
    show (b && (List.range bs.length).all fun i => bs.getD i true) = _
    rw [all_getD bs]
    rfl
theorem monB_flat : MonB CFlat := fun _ _ _ _ _ _ d => d
theorem monB_tup (hD : MonB D) : MonB (CTup D) := fun x y b H H' e ⟨a, c, xs, ys, bs, h1, h2, h3, h4, h5, h6⟩ => ⟨a, c, xs, ys, bs, h1, h2, e _ _ h3, e _ _ h4, h5.mon hD e, h6⟩
theorem monB_ins {C : Addr} {R : Addr → Addr → Bool → Hp → Prop} (hR : ∀ a c b H H', Ext H H' → R a c b H → R a c b H') : MonB (CIns C R) := fun x y b H H' e ⟨a, c, dx, dy, fs, gs, h1, h2, h3, h4, h5⟩ => ⟨a, c, dx, dy, fs, gs, h1, h2, e _ _ h3, e _ _ h4, hR _ _ _ _ _ e h5⟩
theorem eqB_flat : EqB X 0 CFlat := by
  intro A pins s σ H x y u v b sb I rx ry ⟨fx, fy, e⟩
  subst e
  exact eqAt_V (A := A) (s := s) rx ry fx fy X.prog X.w X.xe _ ⟨rfl, H, I, Ext.rfl'⟩
theorem rcB_tup (hD : MonB D) (h : EqB X n D) : RcB X (n + 1) (CTup D) := by
  intro A pins s σ H x y u v b sb I rx ry ⟨a, c, xs, ys, bs, ex, ey, ha, hc, hz, hb⟩
  subst ex ey
  cases rx
  cases ry
  obtain ⟨us, r, e1, _⟩ := I.tuple (.inl (.inl ha))
  obtain ⟨vs, r2, e2, _⟩ := I.tuple (.inl (.inl hc))
  have n1 : us.toArray.size = xs.length := by rw [List.size_toArray, ← r.length]
  have n2 : vs.toArray.size = ys.length := by rw [List.size_toArray, ← r2.length]
  have hl := hz.len
  have ans : ((List.range (min us.toArray.size vs.toArray.size)).all (fun i => bs.getD i true) && (us.toArray.size == vs.toArray.size)) = b := by
    rw [n1, n2, ← hl, all_getD, hb]
  refine rc_tuple_any (e := fun i => bs.getD i true) sb.room.units0 (fun _ s' => LoopI X pins σ H s') e1 e2 (fun i h1 h2 s' ⟨H1, I1, x1⟩ => ?_) (fun i s' q => ⟨by rw [ans], q⟩) ⟨H, I, Ext.rfl'⟩
  have k1 : i < xs.length := n1 ▸ h1
  have k2 : i < ys.length := n2 ▸ h2
  obtain ⟨p, hp, rp⟩ := r.get (List.getElem?_eq_getElem k1)
  obtain ⟨q, hq, rq⟩ := r2.get (List.getElem?_eq_getElem k2)
  obtain ⟨z, hz1, hz2⟩ := (hz.mon hD x1).get (List.getElem?_eq_getElem k1) (List.getElem?_eq_getElem k2)
  have g1 : us.toArray[i] = p := by
    have h1' : i < us.length := by simpa using h1
    rw [List.getElem?_eq_getElem h1'] at hp
    simpa using Option.some.inj hp
  have g2 : vs.toArray[i] = q := by
    have h2' : i < vs.length := by simpa using h2
    rw [List.getElem?_eq_getElem h2'] at hq
    simpa using Option.some.inj hq
  rw [g1, g2]
  refine wpAny_mono (h A.in1 pins s' σ H1 _ _ p q z sb.in1 I1 rp rq hz2) (fun t s2 ⟨ht, H2, I2, x2⟩ => ?_) fun _ _ z => z
  refine ⟨?_, H2, I2, x1.trans x2⟩
  rw [ht, List.getD_eq_getElem?_getD, hz1]
  rfl
/-- a value is equal to itself -/
def SelfB (D : Cmp) : Prop := ∀ x b H, D x x b H → b = true
theorem SelfB.or (h : SelfB D) (h' : SelfB D') : SelfB (fun x y b H => D x y b H ∨ D' x y b H) := fun x b H d => d.elim (h x b H) (h' x b H)
theorem eqV_self : ∀ x : V, flatV x = true → eqV x x = true
  | .non, _ => rfl
  | .bl b, _ => by show (b == b) = true; exact beq_self_eq_true b
  | .int i, _ => by show (i == i) = true; exact beq_self_eq_true i
  | .str z, _ => by show (z == z) = true; exact beq_self_eq_true z
theorem self_flat : SelfB CFlat := fun x b H ⟨h1, _, h3⟩ => h3 ▸ eqV_self x h1
theorem zip_self (h : SelfB D) {H : Hp} : ∀ {xs : List V} {bs : List Bool}, ZipB D xs xs bs H → bs.all id = true
  | [], [], _ => rfl
  | x :: xs, b :: bs, z => by
    rw [List.all_cons, zip_self h z.2, Bool.and_true]
    exact h x b H z.1
  | [], _ :: _, z => z.elim
  | _ :: _, [], z => z.elim
theorem self_tup (h : SelfB D) : SelfB (CTup D) := fun x b H ⟨a, c, xs, ys, bs, e1, e2, h1, h2, h3, h4⟩ => by
  subst e1
  cases e2
  rw [h1] at h2
  cases h2
  rw [h4, zip_self h h3]
  simp
theorem self_ins {C : Addr} {R : Addr → Addr → Bool → Hp → Prop} (h : ∀ a b H, R a a b H → b = true) : SelfB (CIns C R) := fun x b H ⟨a, c, _, _, _, _, e1, e2, _, _, hr⟩ => by
  subst e1
  cases e2
  exact h a b H hr
/-- the same object is equal to itself -/
theorem RcB.eqB (h : RcB X n D) (hr : ∀ x y b H, D x y b H → ∃ a c, x = .ref a ∧ y = .ref c) (hs : SelfB D) : EqB X n D := by
  intro A pins s σ H x y u v b sb I rx ry d
  obtain ⟨a, c, rfl, rfl⟩ := hr _ _ _ _ d
  cases rx
  cases ry
  by_cases hac : a = c
  · subst hac
    obtain rfl := hs _ _ _ d
    exact SeqAt.EqAt.same (A := A) (s := s) (.ref a) X.prog X.w X.xe _ ⟨rfl, H, I, Ext.rfl'⟩
  · exact GQ.eqBool_refG hac (wpAny_mono (h A pins s σ H (.ref a) (.ref c) _ _ b sb I rfl rfl d) (fun r s' ⟨q1, q2⟩ => ⟨b, q1, rfl, q2⟩) fun _ _ z => z)
/-- x == y as an expression -/
def rEqB (D : Cmp) : R2 := fun x y H Q => ∃ b, D x y b H ∧ ∀ H', Ext H H' → Q (.bl b) H'
theorem op_eqB (h : RcB X n D) (hr : Room n X.A) : OpR X (compareOp .Eq) (rEqB D) := by
  intro pins s σ H x y v u Q I rx ry ⟨b, d, q⟩
  show wpAny (model X.prog X.w) X.A (richCompare .Eq v u) (EP X pins σ Q) X.xe s
  refine wpAny_mono (h X.A pins s σ H x y v u b ⟨hr, rfl⟩ I rx ry d) (fun r s' ⟨z, H', I', e⟩ => ?_) fun _ _ z => z
  subst z
  exact ⟨.bl b, H', I', rfl, q H' e⟩
theorem rcB_ins {CX : CXT} {C f : Addr} {fd : FuncData} {ps : List Str} {R : Addr → Addr → Bool → Hp → Prop} {E : XK} (F : FnOk X.prog X.w X.K X.mg X.base CX n f fd ps (spEqB R))
    (hs : PySem.W.findIn X.K (.ref C) "__eq__" = some (some (.ref f))) (hf : PySem.W.isFn X.K (.ref f) = true) (hb : Binds X.K fd ps []) (hx : Passes CX X E) : RcB X n (CIns C R) := by
  intro A pins s σ H x y u v b sb I rx ry ⟨a, c, dx, dy, fs, gs, ex, ey, ha, hc, hr⟩
  subst ex ey
  cases rx
  cases ry
  obtain ⟨_, J, _⟩ := ins_get I.hok ha
  obtain ⟨_, J', _⟩ := ins_get I.hok hc
  obtain ⟨_, J, _⟩ := J.look
  obtain ⟨_, J', _⟩ := J'.look
  obtain ⟨m, hF⟩ := I.fr
  refine PySem.W.cmp_K (op := .Eq) (tb := .ref C) sb.room.units0 hF I.ok.mod.kin J J'.type (by simp [PySem.W.notFirst]) hs hf ?_
  have sp : spEqB R [.ref a, .ref c] H (fun v H' => v = .bl b ∧ Ext H H') E := ⟨a, c, b, rfl, hr, fun H' e => ⟨rfl, e⟩⟩
  have e0 := I.env0
  have e1 : Env0 X.prog X.w X.K X.mg X.base A X.stack s H := ⟨sb.fr.trans e0.frames, e0.mod, e0.bs, e0.bsz, e0.funs, e0.frf, e0.hok, e0.bare⟩
  have two : [Value.ref a, Value.ref c].length = ps.length := F.len _ _ _ _ sp
  have bnd := hb s [.ref a, .ref c] I.kIn (by rw [List.append_nil]; exact two)
  rw [List.append_nil] at bnd
  refine wpAny_call (codeAny_mono (F.run A X.stack s H ⟨[.ref a, .ref c], []⟩ [.ref a, .ref c] [.ref a, .ref c] _ E sb.room e1 bnd (.cons rfl (.cons rfl .nil)) sp) fun r s' hq => ?_)
  cases r with
  | error z => exact hx pins σ H s z s' I hq
  | ok fl =>
    cases fl with
    | ret t =>
      obtain ⟨z, H', I', rz, ez, ext⟩ := I.after hq
      subst ez
      cases rz
      exact ⟨rfl, H', I', ext⟩
    | next => exact False.elim hq
    | brk => exact False.elim hq
    | cont => exact False.elim hq
end
end FsQ

set_option Elab.async false
set_option linter.all false
set_option maxRecDepth 100000
set_option maxHeartbeats 4000000
/-! Two processes by the class's own ==, whatever the answer. -/
namespace Fs
open PySem L2 Evl FsE FsC FsR FsQ
noncomputable def same {α : Type} (x y : α) : Bool := @decide (x = y) (Classical.propDecidable _)
theorem same_iff {α : Type} {x y : α} : same x y = true ↔ x = y := @decide_eq_true_iff _ (Classical.propDecidable _)
theorem same_is {α : Type} {x y : α} {b : Bool} (h : b = true ↔ x = y) : b = same x y := Bool.eq_iff_iff.mpr (h.trans same_iff.symm)
theorem same_self {α : Type} (x : α) : same x x = true := same_iff.mpr rfl
/-! a process by where it stands -/
def kTag (k : Str) : Nat := if k = "choice" then 0 else if k = "new" then 1 else if k = "if" then 2 else 3
def Pr.tag : Pr → Nat
  | .choice _ => 0
  | .new _ _ _ => 1
  | .cond _ _ _ _ => 2
  | .call _ _ => 3
theorem tag_kind (p : Pr) : kTag p.kind = p.tag := by
  cases p with
  | choice os => show kTag "choice" = 0; decide +kernel
  | new n k r => show kTag "new" = 1; decide +kernel
  | cond l r y n => show kTag "if" = 2; decide +kernel
  | call n ops => show kTag "call" = 3; decide +kernel
theorem Opd.v_inj {o q : Opd} (h : o.v = q.v) : o = q := by
  cases o <;> cases q <;> cases h <;> rfl
theorem map_inj {α β : Type} {f : α → β} (hf : ∀ x y, f x = f y → x = y) : ∀ {xs ys : List α}, xs.map f = ys.map f → xs = ys
  | [], [], _ => rfl
  | [], _ :: _, h => nomatch h
  | _ :: _, [], h => nomatch h
  | x :: xs, y :: ys, h => by
    injection h with h1 h2
    rw [hf _ _ h1, map_inj hf h2]
theorem InsAt.uniq {C a t t' : Addr} {H : Hp} {k k' : Str} {d z d' z' : Int} (h : InsAt C H a k t d z) (g : InsAt C H a k' t' d' z') : k = k' ∧ t = t' := by
  obtain ⟨dx, h⟩ := h
  obtain ⟨dy, g⟩ := g
  rw [h] at g
  have e : pFlds k t d z = pFlds k' t' d' z' := by
    have := Option.some.inj g
    injection this
  have e1 : some (V.str k) = some (V.str k') := by rw [← pf_kind (k := k) (t := t) (d := d) (z := z), e, pf_kind]
  have e2 : some (V.ref t) = some (V.ref t') := by rw [← pf_parts (k := k) (t := t) (d := d) (z := z), e, pf_parts]
  cases e1
  cases e2
  exact ⟨rfl, rfl⟩
theorem kind_of {C a : Addr} {H : Hp} {p q : Pr} (h : PrAt C H a p) (g : PrAt C H a q) : p.tag = q.tag := by
  obtain ⟨t, ps, h1, _⟩ := h.ins
  obtain ⟨t', ps', g1, _⟩ := g.ins
  rw [← tag_kind, ← tag_kind, (h1.uniq g1).1]
mutual
theorem PrAt.uniq {C : Addr} {H : Hp} : ∀ {p q : Pr} {a : Addr}, PrAt C H a p → PrAt C H a q → p = q
  | .choice os, .choice qs, a, h, g => by
    unfold PrAt at h g
    obtain ⟨t, ps, h1, h2, h3⟩ := h
    obtain ⟨t', ps', g1, g2, g3⟩ := g
    obtain ⟨_, rfl⟩ := h1.uniq g1
    rw [h2] at g2
    cases g2
    rw [OfsAt.uniq h3 g3]
  | .new n k r, .new n' k' r', a, h, g => by
    unfold PrAt at h g
    obtain ⟨t, b, h1, h2, h3⟩ := h
    obtain ⟨t', b', g1, g2, g3⟩ := g
    obtain ⟨_, rfl⟩ := h1.uniq g1
    rw [h2] at g2
    cases g2
    rw [PrAt.uniq h3 g3]
  | .cond l r y n, .cond l' r' y' n', a, h, g => by
    unfold PrAt at h g
    obtain ⟨t, b, c, h1, h2, h3, h4⟩ := h
    obtain ⟨t', b', c', g1, g2, g3, g4⟩ := g
    obtain ⟨_, rfl⟩ := h1.uniq g1
    rw [h2] at g2
    injection g2 with g2
    injection g2 with g2
    injection g2 with e1 g2
    injection g2 with e2 g2
    injection g2 with e3 g2
    injection g2 with e4 g2
    cases e3
    cases e4
    rw [Opd.v_inj e1, Opd.v_inj e2, PrAt.uniq h3 g3, PrAt.uniq h4 g4]
  | .call n ops, .call n' ops', a, h, g => by
    unfold PrAt at h g
    obtain ⟨t, u, h1, h2, h3⟩ := h
    obtain ⟨t', u', g1, g2, g3⟩ := g
    obtain ⟨_, rfl⟩ := h1.uniq g1
    rw [h2] at g2
    cases g2
    rw [h3] at g3
    have e : ops.map Opd.v = ops'.map Opd.v := by
      have := Option.some.inj g3
      injection this
    rw [map_inj (fun _ _ => Opd.v_inj) e]
  | .choice _, .new _ _ _, _, h, g => absurd (kind_of h g) (by show ¬ 0 = 1; decide)
  | .choice _, .cond _ _ _ _, _, h, g => absurd (kind_of h g) (by show ¬ 0 = 2; decide)
  | .choice _, .call _ _, _, h, g => absurd (kind_of h g) (by show ¬ 0 = 3; decide)
  | .new _ _ _, .choice _, _, h, g => absurd (kind_of h g) (by show ¬ 1 = 0; decide)
  | .new _ _ _, .cond _ _ _ _, _, h, g => absurd (kind_of h g) (by show ¬ 1 = 2; decide)
  | .new _ _ _, .call _ _, _, h, g => absurd (kind_of h g) (by show ¬ 1 = 3; decide)
  | .cond _ _ _ _, .choice _, _, h, g => absurd (kind_of h g) (by show ¬ 2 = 0; decide)
  | .cond _ _ _ _, .new _ _ _, _, h, g => absurd (kind_of h g) (by show ¬ 2 = 1; decide)
  | .cond _ _ _ _, .call _ _, _, h, g => absurd (kind_of h g) (by show ¬ 2 = 3; decide)
  | .call _ _, .choice _, _, h, g => absurd (kind_of h g) (by show ¬ 3 = 0; decide)
  | .call _ _, .new _ _ _, _, h, g => absurd (kind_of h g) (by show ¬ 3 = 1; decide)
  | .call _ _, .cond _ _ _ _, _, h, g => absurd (kind_of h g) (by show ¬ 3 = 2; decide)
theorem OfsAt.uniq {C : Addr} {H : Hp} : ∀ {os qs : Ofs} {ps : List V}, OfsAt C H ps os → OfsAt C H ps qs → os = qs
  | .nil, .nil, _, _, _ => rfl
  | .nil, .cons _ _ _ _ _ _ _, ps, h, g => by
    unfold OfsAt at h g
    subst h
    obtain ⟨_, _, _, _, e, _⟩ := g
    cases e
  | .cons _ _ _ _ _ _ _, .nil, ps, h, g => by
    unfold OfsAt at h g
    subst g
    obtain ⟨_, _, _, _, e, _⟩ := h
    cases e
  | .cons c s m op ns r os, .cons c' s' m' op' ns' r' os', ps, h, g => by
    unfold OfsAt at h g
    obtain ⟨o, u, b, qs, rfl, h1, h2, h3, h4⟩ := h
    obtain ⟨o', u', b', qs', e, g1, g2, g3, g4⟩ := g
    cases e
    rw [h1] at g1
    injection g1 with g1
    injection g1 with g1
    injection g1 with e1 g1
    injection g1 with e2 g1
    injection g1 with e3 g1
    injection g1 with e4 g1
    injection g1 with e5 g1
    injection g1 with e6 g1
    cases e1
    cases e2
    cases e3
    cases e5
    cases e6
    rw [h2] at g2
    have e7 : ns.map V.str = ns'.map V.str := by
      have := Option.some.inj g2
      injection this
    rw [Opd.v_inj e4, map_inj (fun _ _ z => by cases z; rfl) e7, PrAt.uniq h3 g3, OfsAt.uniq h4 g4]
end
/-- processes, one of depth d at most -/
def RPrB (C : Addr) (d : Nat) (a c : Addr) (b : Bool) (H : Hp) : Prop := ∃ p q : Pr, p.depth ≤ (d : Int) ∧ PrAt C H a p ∧ PrAt C H c q ∧ b = same p q
theorem RPrB.ext {C : Addr} {d : Nat} {a c : Addr} {b : Bool} {H H' : Hp} (e : Ext H H') (h : RPrB C d a c b H) : RPrB C d a c b H' := by
  obtain ⟨p, q, hd, h1, h2, h3⟩ := h
  exact ⟨p, q, hd, h1.ex e, h2.ex e, h3⟩
theorem RPrB.self {C : Addr} {d : Nat} {a : Addr} {b : Bool} {H : Hp} (h : RPrB C d a a b H) : b = true := by
  obtain ⟨p, q, _, h1, h2, h3⟩ := h
  rw [h3, h1.uniq h2]
  exact same_self _
abbrev COr (D D' : Cmp) : Cmp := fun x y b H => D x y b H ∨ D' x y b H
abbrev CIt (C : Addr) (d : Nat) : Cmp := COr (COr CFlat (CTup CFlat)) (CIns C (RPrB C d))
abbrev CPt (C : Addr) (d : Nat) : Cmp := COr (CIt C d) (CTup (CIt C d))
theorem mon_itB {C : Addr} {d : Nat} : MonB (CIt C d) := (monB_flat.or (monB_tup monB_flat)).or (monB_ins fun _ _ _ _ _ e h => h.ext e)
theorem mon_ptB {C : Addr} {d : Nat} : MonB (CPt C d) := mon_itB.or (monB_tup mon_itB)
section
variable {C : Addr} {d : Nat} {H : Hp}
theorem bf_str {x y : Str} : CFlat (.str x) (.str y) (same x y) H := ⟨rfl, rfl, same_is (by show (x == y) = true ↔ x = y; exact beq_iff_eq)⟩
theorem bf_int {x y : Int} : CFlat (.int x) (.int y) (same x y) H := ⟨rfl, rfl, same_is (by show (x == y) = true ↔ x = y; exact beq_iff_eq)⟩
theorem bf_opd {o q : Opd} : CFlat o.v q.v (same o q) H := by
  cases o with
  | int i =>
    cases q with
    | int j => exact ⟨rfl, rfl, same_is (by show (i == j) = true ↔ _; rw [beq_iff_eq]; exact ⟨fun z => by rw [z], fun z => by cases z; rfl⟩)⟩
    | nm y => exact ⟨rfl, rfl, same_is (by show false = true ↔ _; exact ⟨(fun z => nomatch z), (fun z => nomatch z)⟩)⟩
  | nm x =>
    cases q with
    | int j => exact ⟨rfl, rfl, same_is (by show false = true ↔ _; exact ⟨(fun z => nomatch z), (fun z => nomatch z)⟩)⟩
    | nm y => exact ⟨rfl, rfl, same_is (by show (x == y) = true ↔ _; rw [beq_iff_eq]; exact ⟨fun z => by rw [z], fun z => by cases z; rfl⟩)⟩
theorem zip_fl {α : Type} {f : α → V} (hf : ∀ x y, CFlat (f x) (f y) (same x y) H) : ∀ (xs ys : List α), ∃ bs, ZipB CFlat (xs.map f) (ys.map f) bs H ∧ (bs.all id && ((xs.map f).length == (ys.map f).length)) = same xs ys
  | [], [] => ⟨[], trivial, (same_self _).symm⟩
  | [], y :: ys => ⟨[], trivial, same_is ⟨fun z => by simp at z, fun z => nomatch z⟩⟩
  | x :: xs, [] => ⟨[], trivial, same_is ⟨fun z => by simp at z, fun z => nomatch z⟩⟩
  | x :: xs, y :: ys => by
    obtain ⟨bs, h1, h2⟩ := zip_fl hf xs ys
    refine ⟨same x y :: bs, ⟨hf x y, h1⟩, same_is ?_⟩
    rw [List.all_cons, List.map_cons, List.map_cons, List.length_cons, List.length_cons]
    have e : ((xs.map f).length + 1 == (ys.map f).length + 1) = ((xs.map f).length == (ys.map f).length) := Bool.eq_iff_iff.mpr (by simp)
    rw [e, Bool.and_assoc, h2]
    show (same x y && same xs ys) = true ↔ _
    rw [Bool.and_eq_true, same_iff, same_iff, List.cons.injEq]
theorem bt_tup {α : Type} {f : α → V} (hf : ∀ x y, CFlat (f x) (f y) (same x y) H) {a c : Addr} {xs ys : List α} (ha : H a = some (.tup (xs.map f))) (hc : H c = some (.tup (ys.map f))) : CIt C d (.ref a) (.ref c) (same xs ys) H := by
  obtain ⟨bs, h1, h2⟩ := zip_fl hf xs ys
  exact .inl (.inr ⟨a, c, _, _, bs, rfl, rfl, ha, hc, h1, h2.symm⟩)
theorem bi_pr {a c : Addr} {p q : Pr} (hd : p.depth ≤ (d : Int)) (ha : PrAt C H a p) (hc : PrAt C H c q) : CIt C d (.ref a) (.ref c) (same p q) H := by
  obtain ⟨t, ps, ⟨dx, h1⟩, _⟩ := ha.out
  obtain ⟨t2, ps2, ⟨dy, h2⟩, _⟩ := hc.out
  exact .inr ⟨a, c, dx, dy, _, _, rfl, rfl, h1, h2, p, q, hd, ha, hc, rfl⟩
theorem bf_it {x y : V} {b : Bool} (h : CFlat x y b H) : CIt C d x y b H := .inl (.inl h)
theorem zip_ofs : ∀ {os qs : Ofs} {xs ys : List V}, os.depth ≤ (d : Int) → OfsAt C H xs os → OfsAt C H ys qs → ∃ bs, ZipB (CPt C d) xs ys bs H ∧ (bs.all id && (xs.length == ys.length)) = same os qs
  | .nil, .nil, xs, ys, _, h, g => by
    unfold OfsAt at h g
    subst h g
    exact ⟨[], trivial, (same_self _).symm⟩
  | .nil, .cons _ _ _ _ _ _ _, xs, ys, _, h, g => by
    unfold OfsAt at h g
    subst h
    obtain ⟨_, _, _, _, rfl, _⟩ := g
    exact ⟨[], trivial, same_is ⟨fun z => by simp at z, fun z => nomatch z⟩⟩
  | .cons _ _ _ _ _ _ _, .nil, xs, ys, _, h, g => by
    unfold OfsAt at h g
    subst g
    obtain ⟨_, _, _, _, rfl, _⟩ := h
    exact ⟨[], trivial, same_is ⟨fun z => by simp at z, fun z => nomatch z⟩⟩
  | .cons c s m op ns r os, .cons c' s' m' op' ns' r' os', xs, ys, hd, h, g => by
    rw [Ofs.depth] at hd
    unfold OfsAt at h g
    obtain ⟨o, u, b, zs, rfl, h1, h2, h3, h4⟩ := h
    obtain ⟨o', u', b', zs', rfl, g1, g2, g3, g4⟩ := g
    obtain ⟨bs, k1, k2⟩ := zip_ofs (by omega) h4 g4
    refine ⟨(same c c' && (same s s' && (same m m' && (same op op' && (same ns ns' && same r r'))))) :: bs, ⟨.inr ⟨o, o', _, _, [same c c', same s s', same m m', same op op', same ns ns', same r r'], rfl, rfl, h1, g1, ⟨bf_it bf_str, bf_it bf_int, bf_it bf_int, bf_it bf_opd, bt_tup (fun _ _ => bf_str) h2 g2, bi_pr (by omega) h3 g3, trivial⟩, ?_⟩, k1⟩, same_is ?_⟩
    · show _ = ((same c c' && (same s s' && (same m m' && (same op op' && (same ns ns' && (same r r' && true)))))) && true)
      rw [Bool.and_true, Bool.and_true]
    · rw [List.all_cons, List.length_cons, List.length_cons]
      have e : (zs.length + 1 == zs'.length + 1) = (zs.length == zs'.length) := Bool.eq_iff_iff.mpr (by simp)
      rw [e, Bool.and_assoc, k2]
      show ((same c c' && (same s s' && (same m m' && (same op op' && (same ns ns' && same r r'))))) && same os os') = true ↔ _
      simp only [Bool.and_eq_true, same_iff, Ofs.cons.injEq, and_assoc]
theorem zip_parts {p q : Pr} {xs ys : List V} (hk : p.kind = q.kind) (hd : p.depth ≤ (d : Int) + 1) (h : PartsAt C H xs p) (g : PartsAt C H ys q) : ∃ bs, ZipB (CPt C d) xs ys bs H ∧ (bs.all id && (xs.length == ys.length)) = same p q := by
  have ht : p.tag = q.tag := by rw [← tag_kind, ← tag_kind, hk]
  cases p with
  | choice os =>
    cases q with
    | choice qs =>
      rw [Pr.depth] at hd
      obtain ⟨bs, k1, k2⟩ := zip_ofs (C := C) (d := d) (H := H) (by omega) h g
      exact ⟨bs, k1, by rw [k2]; exact same_is (by rw [same_iff, Pr.choice.injEq])⟩
    | new _ _ _ => exact absurd ht (by show ¬ 0 = 1; decide)
    | cond _ _ _ _ => exact absurd ht (by show ¬ 0 = 2; decide)
    | call _ _ => exact absurd ht (by show ¬ 0 = 3; decide)
  | new n k r =>
    cases q with
    | new n' k' r' =>
      rw [Pr.depth] at hd
      obtain ⟨b, rfl, hb⟩ := h
      obtain ⟨b', rfl, hb'⟩ := g
      refine ⟨[same n n', same k k', same r r'], ⟨.inl (bf_it bf_str), .inl (bf_it bf_int), .inl (bi_pr (by omega) hb hb'), trivial⟩, same_is ?_⟩
      show ((same n n' && (same k k' && (same r r' && true))) && true) = true ↔ _
      simp only [Bool.and_eq_true, same_iff, Pr.new.injEq, and_true]
    | choice _ => exact absurd ht (by show ¬ 1 = 0; decide)
    | cond _ _ _ _ => exact absurd ht (by show ¬ 1 = 2; decide)
    | call _ _ => exact absurd ht (by show ¬ 1 = 3; decide)
  | cond l r y n =>
    cases q with
    | cond l' r' y' n' =>
      rw [Pr.depth] at hd
      obtain ⟨b, c, rfl, hb, hc⟩ := h
      obtain ⟨b', c', rfl, hb', hc'⟩ := g
      refine ⟨[same l l', same r r', same y y', same n n'], ⟨.inl (bf_it bf_opd), .inl (bf_it bf_opd), .inl (bi_pr (by omega) hb hb'), .inl (bi_pr (by omega) hc hc'), trivial⟩, same_is ?_⟩
      show ((same l l' && (same r r' && (same y y' && (same n n' && true)))) && true) = true ↔ _
      simp only [Bool.and_eq_true, same_iff, Pr.cond.injEq, and_true]
    | choice _ => exact absurd ht (by show ¬ 2 = 0; decide)
    | new _ _ _ => exact absurd ht (by show ¬ 2 = 1; decide)
    | call _ _ => exact absurd ht (by show ¬ 2 = 3; decide)
  | call n ops =>
    cases q with
    | call n' ops' =>
      obtain ⟨u, rfl, hu⟩ := h
      obtain ⟨u', rfl, hu'⟩ := g
      refine ⟨[same n n', same ops ops'], ⟨.inl (bf_it bf_str), .inl (bt_tup (fun _ _ => bf_opd) hu hu'), trivial⟩, same_is ?_⟩
      show ((same n n' && (same ops ops' && true)) && true) = true ↔ _
      simp only [Bool.and_eq_true, same_iff, Pr.call.injEq, and_true]
    | choice _ => exact absurd ht (by show ¬ 3 = 0; decide)
    | new _ _ _ => exact absurd ht (by show ¬ 3 = 1; decide)
    | cond _ _ _ _ => exact absurd ht (by show ¬ 3 = 2; decide)
end
section
variable {P : Program} {w : World} {K : PySem.W.Frag} {mg : Str → Option Value} {base : Heap} {C CB : Addr}
theorem scEqB : FnScope ["self", "other"] ["self", "other"] (defScope (inClass (topS 27) 6)) := ⟨rfl, rfl, rfl, by decide +kernel, rfl, by decide +kernel, by decide +kernel⟩
theorem eqB_pt {X : Cx} {f : Addr} {fd : FuncData} {d n : Nat} {E : XK} (hn : 1 ≤ n) (ih : FnOk X.prog X.w X.K X.mg X.base CX0 n f fd ["self", "other"] (spEqB (RPrB C d))) (at_ : PySem.W.findIn X.K (.ref C) "__eq__" = some (some (.ref f))) (fn : PySem.W.isFn X.K (.ref f) = true) (hb : Binds X.K fd ["self", "other"] []) (hx : Passes CX0 X E) : EqB X (n + 1) (CPt C d) := by
  have sf : SelfB (CIt C d) := (self_flat.or (self_tup self_flat)).or (self_ins fun a b H h => h.self)
  have e1 : EqB X 1 (CTup CFlat) := (rcB_tup monB_flat eqB_flat).eqB (fun _ _ _ _ ⟨a, c, _, _, _, hx, hy, _⟩ => ⟨a, c, hx, hy⟩) (self_tup self_flat)
  have e2 : EqB X n (CIns C (RPrB C d)) := (rcB_ins ih at_ fn hb hx).eqB (fun _ _ _ _ ⟨a, c, _, _, _, _, hx, hy, _⟩ => ⟨a, c, hx, hy⟩) (self_ins fun a b H h => h.self)
  have e3 : EqB X n (CIt C d) := ((eqB_flat.mono (Nat.zero_le _)).or (e1.mono hn)).or e2
  exact (e3.mono (Nat.le_succ _)).or ((rcB_tup mon_itB e3).eqB (fun _ _ _ _ ⟨a, c, _, _, _, hx, hy, _⟩ => ⟨a, c, hx, hy⟩) (self_tup sf))
theorem ok_eqB {f : Addr} {fd : FuncData} (F : Fun K "__eq__" "Process.__eq__" (inClass (topS 27) 6) f fd) (hi : mg "isinstance" = none) (T : TerT K mg C CB) (at_ : PySem.W.findIn K (.ref C) "__eq__" = some (some (.ref f))) (fn : PySem.W.isFn K (.ref f) = true) (hb : Binds K fd ["self", "other"] []) : ∀ d : Nat, FnOk P w K mg base CX0 (2 + 3 * d) f fd ["self", "other"] (spEqB (RPrB C d))
  | 0 => by
    refine F.ok scEqB (fun vs H Q E h => ?_) (fun cdv A outer s H vs Q E hr h => ?_)
    · obtain ⟨a, c, b, rfl, _⟩ := h
      rfl
    · obtain ⟨a, c, b, rfl, ⟨p, q, hp, _⟩, _⟩ := h
      have := Pr.depth_pos p
      exact absurd hp (by omega)
  | d + 1 => by
    have ih := ok_eqB F hi T at_ fn hb d
    have ek : 2 + 3 * (d + 1) = 2 + 3 * d + 2 + 1 := by omega
    rw [ek]
    refine F.ok scEqB (fun vs H Q E h => ?_) (fun cdv A outer s H vs Q E hr h => ?_)
    · obtain ⟨a, c, b, rfl, _⟩ := h
      rfl
    · obtain ⟨a, c, b, rfl, ⟨p, q, hp, ha, hc, hbb⟩, k⟩ := h
      refine ⟨_, pss_one (ps_ret (pe_and (pe_callB (id := "isinstance") (r := rIsi K) call_isi (by rfl) hi (by decide +kernel) (pa_cons (pv 1) (pa_cons (pe_glob (v := .ref C) (by rfl) T.mgC rfl) pa_nil)))
        (pe_and (pe_cmpR op_eq (pe_fld (pv 0) rfl) (pe_fld (pv 1) rfl) (nomark _))
          (pe_one (pe_cmpR (op_eqB (n := 2 + 3 * d + 1 + 1) (D := CTup (CPt C d)) (rcB_tup mon_ptB (eqB_pt (C := C) (d := d) (by omega) ih at_ fn hb pass0)) (hr.mono (by omega))) (pe_fld (pv 0) rfl) (pe_fld (pv 1) rfl) (nomark _)))))), ?_⟩
      obtain ⟨t, xs, ⟨dx, h1⟩, h2, h3⟩ := ha.out
      obtain ⟨t', ys, ⟨dy, g1⟩, g2, g3⟩ := hc.out
      have hkb : decide (V.str p.kind = V.str q.kind) = true ↔ p.kind = q.kind := by rw [decide_eq_true_eq]; exact ⟨fun z => by injection z, fun z => by rw [z]⟩
      refine s_ret (v := .bl b) (ev_is (ev_andV (a := true) (b := decide (V.str p.kind = V.str q.kind) && same p q) (ev_cb (ea_cons (ev_var rfl) (ea_cons ev_c ea_nil)) (rc_isiOwn (tyx_pr T hc) kOwn)) (fun _ => ev_andV (a := decide (V.str p.kind = V.str q.kind)) (b := same p q) (ev_op (ev_fld (ev_var rfl) h1 T.cl T.nK pf_kind) (ev_fld (ev_var rfl) g1 T.cl T.nK pf_kind) (rv_eq rfl)) (fun hk => ?_))) ?_) k
      · refine ev_op (ev_fld (ev_var rfl) h1 T.cl T.nP pf_parts) (ev_fld (ev_var rfl) g1 T.cl T.nP pf_parts) (fun H1 e1 Q' q' => ?_)
        obtain ⟨bs, z1, z2⟩ := zip_parts (C := C) (d := d) (H := H1) (hkb.mp hk) (by omega) (h3.ex e1) (g3.ex e1)
        exact ⟨same p q, ⟨t, t', xs, ys, bs, rfl, rfl, e1 _ _ h2, e1 _ _ g2, z1, z2.symm⟩, fun H2 e2 => q' H2 e2⟩
      · rw [hbb, Bool.true_and]
        refine congrArg V.bl (Bool.eq_iff_iff.mpr ?_)
        rw [Bool.and_eq_true, hkb, same_iff]
        exact ⟨fun z => z.2, fun z => ⟨by rw [z], z⟩⟩
end
end Fs

set_option Elab.async false
set_option linter.all false
set_option maxRecDepth 100000
set_option maxHeartbeats 4000000
/-! An own error over ValueError, by a class between: its __init__ calls super().__init__ with a fixed text, then stores its one argument as the field field. -/
namespace FsB
open PySem PySem.W PySem.Calls PyProof.Rows PySem.HandSPX
abbrev eS : Scope := { kind := .function, names := [(PySem.Str.ofString "self", .local), (PySem.Str.ofString "field", .local), (PySem.Str.ofString "__class__", .free), (PySem.Str.ofString "super", .globalImplicit)], isGenerator := false, isCoroutine := false, more := [] }
abbrev eA (p1 p2 : Pos) : Arguments := { posonlyargs := [], args := [{ arg := "self", annotation := none, pos := p1 }, { arg := "field", annotation := none, pos := p2 }], vararg := none, kwonlyargs := [], kw_defaults := [], kwarg := none, defaults := [] }
abbrev eB (msg : Expr) (p0 p1 p2 p3 p4 p5 p6 p7 p8 : Pos) : List Stmt := [.Expr (.Call (.Attribute (.Call (.Name "super" p0) [] [] p1) "__init__" p2) [msg] [] p3) p4, .Assign [.Attribute (.Name "self" p5) "field" p6] (.Name "field" p7) p8]
/-- the message -/
abbrev eM (z : Str) (q0 : Pos) : Expr := .Constant (.str z) 0 q0
abbrev mroVE : List Value := [.type "ValueError", .type "Exception", .type "BaseException", .type "object"]
/-- what the written part says of the class at C, and of its __init__, at fI -/
structure ErrTxt (prog : Program) (K : Frag) (mg : Str → Option Value) (x : Str) (C fI : Addr) : Prop where
  gC : mg x = some (.ref C)
  cls : ∃ nm q N bs bm sn sub ab col dd k0 k1 k2 k3 k5, K.lookup C = some (excClassObj nm q C N bs bm true sn sub ab col dd k0 k1 k2 k3 k5 "ValueError.__new__") ∧ refsVE bm = true
  ei : excInitIn K C mroVE "ValueError.__new__" = true
  sa : findIn K (.ref C) "__setattr__" = some (some (.builtin "object.__setattr__"))
  noN : findIn K (.ref C) "field" = some none
  iC : findIn K (.ref C) "__init__" = some (some (.ref fI))
  tC : typeIn K (.ref fI) = some (.type "function")
  kC : keepIn K (.ref C) = true
  exC : subIn K (.ref C) (.type "BaseException") = some true
  veC : subIn K (.ref C) (.type "ValueError") = some true
  tyC : typeIn K (.ref C) = some (.type "type")
  slf : mroIn K C (.ref C) = some true
  sup : ks_superIn K C C "__init__" = some (some (.builtin "ValueError.__init__"))
  opq : nsIn K cStatics "thirdparty.any" = some none
  gs : mg "super" = none
  top : (prog.main.scope.names.lookup ("super" : Str)).isSome = false
  fn : ∃ (oc : Value) (od an : Option Addr) (kV doc pm ct : Value) (osl : Array (Option Value)) (qual : Str) (cda cc : Addr) (ccl cl : Value) (cdd cld : Option Addr) (ccs csl : Array (Option Value)) (vs : Array Value) (file : Str) (tf : Tok) (zM : Str) (p1 p2 q0 r0 r1 r2 r3 r4 r5 r6 r7 r8 : Pos),
    K.lookup fI = some ⟨oc, od, .func (ksFn "__init__" qual (eA p1 p2) (eB (eM zM q0) r0 r1 r2 r3 r4 r5 r6 r7 r8) eS .none kV doc pm an (.ref cda) ct cc), osl⟩ ∧ codeIn K (.ref cda) qual = true ∧
    K.lookup cda = some ⟨ccl, cdd, .fields vs, ccs⟩ ∧ vs[2]? = some (.str file tf) ∧ ((prog.main.file : Str) == file) = true ∧ K.lookup cc = some ⟨cl, cld, .cell (some (.ref C)), csl⟩ ∧ zM.length ≤ 1000 ∧ (r2.endLine == r3.line) = true
theorem call_line {o : Expr} {name : Str} {apos pos : Pos} {a : Expr} {env : Env} (hp : (apos.endLine == pos.line) = true) (hs : starEach [a] env = (false, eval a env) :: starEach [] env) : eval (.Call (.Attribute o name apos) [a] [] pos) env = (do
      let ov ← attributeBase o name env (eval o env)
      standAt apos.atName
      let (f, first) ← holding [ov] (getMethod ov name (do return (← importBound o env).getD true))
      callWith pos f first (backTo pos (starEach [a] env)) []) := by
  show (do
      let ov ← attributeBase o name env (eval o env)
      standAt apos.atName
      methodCall o name apos pos env ov 1 (backTo pos (starEach [a] env)) []) = _
  have e : methodCallForm 1 (backTo pos (starEach [a] env)) [] = true := by
    rw [hs]
    rfl
  unfold methodCall
  rw [e]
  unfold methodCallPos calleeOf
  rw [hp]
  simp only [Bool.not_true, Bool.false_or, if_true, pure_bind]
/-- what __init__ leaves of a fresh exception at x, over the heap h -/
structure BtEnd (h h' : Heap) (x C dx t1 : Addr) (v : Value) : Prop where
  keep : ∀ b o, h.get? b = some o → h'.get? b = some o
  obj : h'.get? x = some { cls := .ref C, dict := some dx, data := .fields #[.ref t1, .none, .none, .none, .bool false, .none] }
  dbig : h.objs.size ≤ dx
  dne : dx ≠ x
  ns : h'.Ns1 dx (fun y => if y = "field" then some v else none)
theorem str_len2 (a b : Str) : (a ++ b).length = a.length + b.length := by
  show (a.cps ++ b.cps).size = _
  rw [Array.size_append]
  rfl
theorem len1 (v : Value) : [v].length ≤ sizeLine := by
  rw [sizeLine_eq]
  exact (by decide : 1 ≤ 16777216)
section
variable {prog : Program} {w : World} {A : Around} {E : Value → Shared → Prop} {R : Result → Shared → Prop} {s : Shared} {K : Frag} {mg : Str → Option Value} {x0 : Str} {C fI : Addr}
theorem bt_init (T : ErrTxt prog K mg x0 C fI) {hp : Heap} {x t0 : Addr} {v : Value} (X : K.In hp) (G : hp.Ns mainGlobals mg) (Bl : ∃ mb, hp.Ns builtinsNs mb ∧ mb "super" = some (.type "super")) (hlim : s.heap.NoLimit)
    (k : ∀ b o, hp.get? b = some o → s.heap.get? b = some o) (hsz : hp.objs.size ≤ s.heap.objs.size) (hx : s.heap.get? x = some (excO C t0)) (hxn : hp.get? x = none) (hroom : A.depth < recursionLimit)
    (hq : ∀ h' tk' dx t1, BtEnd hp h' x C dx t1 v → R (.ok (.ret .none)) { s with heap := h', toks := tk' }) :
    codeAny (model prog w) A (.call (.ref fI) ⟨[.ref x, v], []⟩) R s := by
  obtain ⟨oc, od, an, kV, doc, pm, ct, osl, qual, cda, cc, ccl, cl, cdd, cld, ccs, csl, vs, file, tf, zM, p1, p2, q0, r0, r1, r2, r3, r4, r5, r6, r7, r8, ho, hcd, hcode, hvs, hfile, hcell, hM, hline⟩ := T.fn
  obtain ⟨nm, q, N, bs, bm, sn, sub, ab, col, dd, k0, k1, k2, k3, k5, hC, hbm⟩ := T.cls
  obtain ⟨mb, hb, hmb⟩ := Bl
  have hcl : clsIn K C = some { name := nm, bases := bs, mro := .ref C :: bm, ns := N, qualname := q, hasDict := true, slotNames := sn, subclasses := sub, abstract := ab, collection := col, hasDel := false } := by unfold clsIn; rw [hC] <;> rfl
  have Xs : K.In s.heap := X.keeps k
  have noc : ∀ y ∈ eS.names, y.2 ≠ .cell := by decide +kernel
  have locs : ∀ y ∈ [(("self" : Str), Value.ref x), ("field", v)], eS.names.lookup y.1 = some .local := fun y hy => by
    rcases List.mem_cons.mp hy with rfl | hy
    · rfl
    · rw [List.mem_singleton.mp hy]
      rfl
  refine ks_codeAny_call_defAt (body := eB (eM zM q0) r0 r1 r2 r3 r4 r5 r6 r7 r8) (binds := [("self", .ref x), ("field", v)]) hroom (Xs _ _ ho) rfl hlim (codeRec_of Xs hcd) rfl (BindsTo.of_eq (by first | rfl | with_unfolding_all rfl)) noc locs (fun h₁ hns hk₁ => ?_) rfl rfl rfl
  have Fr1 : Fr hp s.heap.objs.size h₁ (fun y => [(("self" : Str), Value.ref x), ("field", v)].reverse.lookup y) := ⟨hns, fun b o e => hk₁ b o (k b o e), hsz⟩
  have N1 : News hp s.heap.objs.size h₁ [(x, excObj C t0 none .none)] := fun p hp' => by
    rw [List.mem_singleton.mp hp']
    exact ⟨hk₁ _ _ hx, Nat.ne_of_lt (Heap.lt_size hx), hxn⟩
  show _root_.PySem.wpAt (model prog w) _ (.func _ (ksEnv qual eS s.heap.objs.size fI (.ref cda) cc)) (execs (eB (eM zM q0) r0 r1 r2 r3 r4 r5 r6 r7 r8) (ksEnv qual eS s.heap.objs.size fI (.ref cda) cc)) _ _ _
  refine ks_wpAt_execs_cons (ks_wpAt_Expr_any (ks_wpAt_MethodCall ?_ (call_line hline rfl)))
  generalize hE : (fun e s' => wpAny (model prog w) _ (leaving _ e) (fun x s'' => R (Except.error e) s'') (fun e' s'' => R (Except.error e') s'') s') = EE
  have X1 : K.In h₁ := X.keeps Fr1.keep
  -- super()
  refine ks_wpAt_super_base (env := ksEnv qual eS s.heap.objs.size fI (.ref cda) cc) rfl rfl rfl rfl (X1 _ _ ho) rfl rfl rfl (X1 _ _ hcode) rfl hvs hfile T.top ?_
  refine ks_loadName_global rfl rfl (loadGlobal_builtin (env := ksEnv qual eS s.heap.objs.size fI (.ref cda) cc) (G.keeps Fr1.keep) T.gs (hb.keeps Fr1.keep) hmb ⟨rfl, ?_⟩)
  refine wpAny_loadName_free rfl rfl rfl ⟨_, X1 _ _ hcell, rfl⟩ ?_
  refine wpAny_loadName_local (v := .ref x) rfl rfl hns rfl ?_
  refine ks_wpAny_isType_cls (X1 _ _ hC) rfl ⟨rfl, ?_⟩
  refine ks_wpAny_call_super (X1 _ _ hC) rfl (hk₁ _ _ hx) rfl (fun c z => by cases z) (looks_mroIn X1 T.slf) (fun h2 hso k2 => ?_)
  obtain ⟨F2, N2, l2⟩ := ks_newsPush (s := ⟨h₁, s.gens, s.drawn, s.toks + 2, s.os⟩) Fr1 N1 rfl hso k2
  -- its __init__, bound
  refine kxs_method kxs_ValueError F2 X N2 (List.mem_cons_self ..) (InstAt.of_exc0 (c2 := .none) (t := t0) N2 (List.mem_cons_of_mem _ (List.mem_cons_self ..))) T.opq T.sup T.veC rfl (fun u h3 F3 N3 l3 => ?_)
  refine kxs_callWith1 N3 (List.mem_cons_self ..) ?_ rfl rfl
  refine Calls.spliced_cons ?_
  show wpAny _ _ (eval (eM zM q0) (ksEnv qual eS s.heap.objs.size fI (.ref cda) cc)) _ _ _
  refine Calls.Constant_str ?_
  refine Calls.spliced_nil ⟨kxs_at N3 (List.mem_cons_self ..), ?_⟩
  have nx1 : h₁.objs.size ≠ x := fun z => Nat.lt_irrefl _ (z ▸ l2 _ (List.mem_cons_self ..) : x < x)
  have nx2 : u ≠ x := fun z => Nat.lt_irrefl _ (z ▸ l3 _ (List.mem_cons_of_mem _ (List.mem_cons_self ..)) : x < x)
  refine kxs_call F3 X N3 PySem.F.excBase_ValueError T.ei (List.mem_cons_self ..) (.tail nx2 (.tail nx1 (.head fun p hp' => by cases hp'))) (len1 _) (fun t' h4 F4 N4 l4 => ?_)
  -- self.field = field
  have X4 : K.In h4 := X.keeps F4.keep
  have hx4 : h4.get? x = some (excO C t') := (N4 (x, excObj C t' none .none) (List.mem_cons_of_mem _ (List.mem_cons_of_mem _ (List.mem_cons_of_mem _ (List.mem_cons_self ..))))).1
  refine wpAt_of_wpAny (wpAny_execs_cons (plainObj_wpAny_Assign_Attribute ?_))
  refine wpAny_Name (wpAny_loadName_local (v := v) rfl rfl F4.ns rfl ?_) rfl
  refine wpAny_Name (wpAny_loadName_local (v := .ref x) rfl rfl F4.ns rfl ?_) rfl
  refine set_plain X4 (ox := excO C t') (od := none) ⟨hx4, rfl, rfl, trivial⟩ T.sa ?_
  refine exc_osa X4 hx4 hcl (show refsVE (.ref C :: bm) = true from hbm) rfl T.noN (fun h5 tk5 dx k5 dn dne hx5 hn5 => ?_)
  have zz : s.heap.objs.size < h4.objs.size := F4.ns.lt
  exact wpAny_execs_nil (hq h5 tk5 dx t' ⟨fun b o e => k5 b o (fun z => by rw [z, hxn] at e; cases e) (F4.keep b o e), hx5, Nat.le_trans hsz (Nat.le_trans (Nat.le_of_lt zz) dn), dne, hn5⟩)
end
end FsB

set_option Elab.async false
set_option linter.all false
set_option maxRecDepth 100000
set_option maxHeartbeats 4000000
namespace FsB
open PySem PySem.W PySem.Calls PyProof.Rows PySem.HandSPX
/-- a made one -/
structure BtMade (h h' : Heap) (e C d : Addr) (v : Value) : Prop where
  keep : ∀ b o, h.get? b = some o → h'.get? b = some o
  big : h.objs.size ≤ e
  obj : ∃ t1 : Addr, h'.get? e = some { cls := .ref C, dict := some d, data := .fields #[.ref t1, .none, .none, .none, .bool false, .none] }
  dbig : h.objs.size ≤ d
  dne : d ≠ e
  ns : h'.Ns1 d (fun y => if y = "field" then some v else none)
section
variable {prog : Program} {w : World} {A : Around} {R : Result → Shared → Prop} {s : Shared} {K : Frag} {mg : Str → Option Value} {x0 : Str} {C fI : Addr}
theorem bt_made (T : ErrTxt prog K mg x0 C fI) {v : Value} (X : K.In s.heap) (G : s.heap.Ns mainGlobals mg) (Bl : ∃ mb, s.heap.Ns builtinsNs mb ∧ mb "super" = some (.type "super")) (hlim : s.heap.NoLimit) (hroom : A.depth + 1 < recursionLimit)
    (hq : ∀ h' tk' e d, BtMade s.heap h' e C d v → R (.ok (.ret (.ref e))) { s with heap := h', toks := tk' }) : codeAny (model prog w) A (.call (.ref C) ⟨[v], []⟩) R s := by
  obtain ⟨nm, q, N, bs, bm, sn, sub, ab, col, dd, k0, k1, k2, k3, k5, hC, hbm⟩ := T.cls
  obtain ⟨g0, gs, dr, t, os⟩ := s
  let g2 : Heap := (g0.push (kdv_tup [v])).push (excO C g0.objs.size)
  have up : ∀ b o, g0.get? b = some o → g2.get? b = some o := fun b o e => Heap.get?_push_of_some _ (Heap.get?_push_of_some _ e)
  have at1 : g2.get? (g0.objs.size + 1) = some (excO C g0.objs.size) := by
    show ((g0.push (kdv_tup [v])).push (excO C g0.objs.size)).get? (g0.objs.size + 1) = _
    heap_get
  have sz2 : g2.objs.size = g0.objs.size + 1 + 1 := by
    show ((g0.push (kdv_tup [v])).push (excO C g0.objs.size)).objs.size = _
    rw [Heap.size_push, Heap.size_push]
  have free1 : g0.get? (g0.objs.size + 1) = none := by
    cases e : g0.get? (g0.objs.size + 1) with
    | none => rfl
    | some o => exact absurd (Nat.lt_of_succ_lt (Heap.lt_size e)) (Nat.lt_irrefl _)
  refine call_own F.excBase_ValueError (fun Y => refsVE_contains Y bm hbm) (X _ _ hC) (looks_findIn X T.iC) (fun self => bind_fn X self T.tC) (len1 _) ?_
  refine bt_init (s := ⟨g2, gs, dr, t, os⟩) (hp := g0) T X G Bl (hlim.keeps up) up (by show g0.objs.size ≤ g2.objs.size; omega) at1 free1 hroom fun h' t' dx t1 ⟨k, ho, dbig, dne, hns⟩ => ?_
  exact ⟨rfl, hq h' t' (g0.objs.size + 1) dx ⟨k, Nat.le_succ _, ⟨t1, ho⟩, dbig, dne, hns⟩⟩
end
end FsB
namespace Fs
open PySem PySem.Spec PyProof.Rows L2 FsB
theorem relO_field {f : Str} {v : V} {u : Value} (r : RelV v u) (g : Str) : RelO (List.lookup g [(f, v)]) (if g = f then some u else none) := by
  by_cases h : g = f
  · rw [h, if_pos rfl, show List.lookup f [(f, v)] = some v by simp [List.lookup]]
    exact r
  · rw [if_neg h, show List.lookup g [(f, v)] = none by simp [List.lookup, show (g == f) = false by simpa using h]]
    trivial
theorem raises_bt {P : Program} {w : World} {K : PySem.W.Frag} {mg : Str → Option Value} {base : Heap} {x : Str} {C fI : Addr} {k : Nat} (hdb : (x == ("__debug__" : Str)) = false) (T : ErrTxt P K mg x C fI) : RaisesX P w K mg base x C "field" k := by
  intro X eP ew eK em eb hr a ta p pos ha hg he hpl pins s σ H Q I h
  subst eP ew eK em eb
  refine wpAny_Call_Name_kw (ld_glob I hg T.gC ?_ hdb)
  refine PySem.W.callWith_K (h₀ := X.base) I.ok.mod.kin T.kC (thn (ha.run pos pins s σ H _ I h) fun us s1 ⟨vs, H1, I1, r1, z, ev, hz, q1⟩ => ?_) he hpl
  subst ev
  refine ⟨I1.kIn, ?_⟩
  cases r1 with
  | cons rv rn =>
    cases rn
    obtain ⟨tk, rfl⟩ := rv
    show wpAny _ _ (call (.ref C) [.str z tk]) _ _ _
    have lim := I1.nolimit
    obtain ⟨mb, b1, b2⟩ := I1.ok.mod.blt
    have gl : s1.heap.Ns mainGlobals X.mg := I1.ok.mod.glob.keeps I1.bk
    have bl : ∃ mb, s1.heap.Ns builtinsNs mb ∧ mb "super" = some (.type "super") := ⟨mb, b1.keeps I1.bk, (b2 _ (by decide)).trans Boot.«super»⟩
    obtain ⟨g0, gs, dr, t, os⟩ := s1
    refine wpAny_call (bt_made T I1.kIn gl bl lim (by have := hr.dp; omega) fun h' t' e d M => ?_)
    show MkP X pins σ Q (.ref e) ⟨h', gs, dr, t', os⟩
    obtain ⟨t1, ho⟩ := M.obj
    obtain ⟨G', ge1, ge2⟩ := restrict h' fun b => decide (b ≠ e)
    have same : ∀ b, b ≠ e → G'.get? b = h'.get? b := fun b hb => ge1 b (decide_eq_true hb)
    have gone : G'.get? e = none := ge2 e (by simp)
    have old : ∀ b o, g0.get? b = some o → G'.get? b = some o := fun b o q => (same b (Nat.ne_of_lt (Nat.lt_of_lt_of_le (Heap.lt_size q) M.big))).trans (M.keep b o q)
    have ob : ObjOk X.prog X.w (upd H1 d (.xd [(("field" : Str), V.str z)])) G' d (.xd [(("field" : Str), V.str z)]) := ⟨_, M.ns.at (fun o q => (same d M.dne).trans q), fun f => relO_field (v := V.str z) ⟨tk, rfl⟩ f⟩
    have J : Inv X pins σ (upd H1 d (.xd [(("field" : Str), V.str z)])) ⟨G', gs, dr, t', os⟩ := I1.laid (t' := t') old M.dbig ob
    refine ⟨e, _, _, ⟨G', gs, dr, t', os⟩, _, .ref C, some d, rfl, J, fun b o q => ?_, gone, ho, ⟨rfl, rfl⟩, rfl, rfl, ?_, rfl, I1.bare, raises_own T.exC T.tyC, q1 d (I1.hok.fresh M.dbig)⟩
    · by_cases hb : b = e
      · have q' : G'.get? b = some o := q
        rw [hb, gone] at q'
        cases q'
      · exact (same b hb).symm.trans q
    · rw [upd_ne (Ne.symm M.dne)]
      exact I1.hok.fresh M.big
end Fs

set_option Elab.async false
set_option linter.all false
set_option maxRecDepth 100000
set_option maxHeartbeats 4000000
/-! what is raised, told with its context (None): over L2N.CX -/
namespace Fs
open PySem PySem.Spec PyProof.Rows L2 FsB
/-- RaisesX, over L2N -/
def RaisesXN (P : Program) (w : World) (K : PySem.W.Frag) (mg : Str → Option Value) (base : Heap) (x : Str) (C : Addr) (f : Str) (k : Nat) : Prop :=
  ∀ (X : Cx), X.prog = P → X.w = w → X.K = K → X.mg = mg → X.base = base → Room k X.A → ∀ (a : Expr) (ta : TA) (p pos : Pos), PA X [a] ta → Gl X x → starEach (a :: []) X.env = (false, eval a X.env) :: starEach [] X.env → (backTo pos (starEach [] X.env)).any (·.1) = false →
    L2N.PMk X (.Call (.Name x p) [a] [] pos) (tMkE C f ta)
theorem raises_btN {P : Program} {w : World} {K : PySem.W.Frag} {mg : Str → Option Value} {base : Heap} {x : Str} {C fI : Addr} {k : Nat} (hdb : (x == ("__debug__" : Str)) = false) (T : ErrTxt P K mg x C fI) : RaisesXN P w K mg base x C "field" k := by
  intro X eP ew eK em eb hr a ta p pos ha hg he hpl pins s σ H Q I h
  subst eP ew eK em eb
  refine wpAny_Call_Name_kw (ld_glob I hg T.gC ?_ hdb)
  refine PySem.W.callWith_K (h₀ := X.base) I.ok.mod.kin T.kC (thn (ha.run pos pins s σ H _ I h) fun us s1 ⟨vs, H1, I1, r1, z, ev, hz, q1⟩ => ?_) he hpl
  subst ev
  refine ⟨I1.kIn, ?_⟩
  cases r1 with
  | cons rv rn =>
    cases rn
    obtain ⟨tk, rfl⟩ := rv
    show wpAny _ _ (call (.ref C) [.str z tk]) _ _ _
    have lim := I1.nolimit
    obtain ⟨mb, b1, b2⟩ := I1.ok.mod.blt
    have gl : s1.heap.Ns mainGlobals X.mg := I1.ok.mod.glob.keeps I1.bk
    have bl : ∃ mb, s1.heap.Ns builtinsNs mb ∧ mb "super" = some (.type "super") := ⟨mb, b1.keeps I1.bk, (b2 _ (by decide)).trans Boot.«super»⟩
    obtain ⟨g0, gs, dr, t, os⟩ := s1
    refine wpAny_call (bt_made T I1.kIn gl bl lim (by have := hr.dp; omega) fun h' t' e d M => ?_)
    show L2N.MkP X pins σ Q (.ref e) ⟨h', gs, dr, t', os⟩
    obtain ⟨t1, ho⟩ := M.obj
    obtain ⟨G', ge1, ge2⟩ := restrict h' fun b => decide (b ≠ e)
    have same : ∀ b, b ≠ e → G'.get? b = h'.get? b := fun b hb => ge1 b (decide_eq_true hb)
    have gone : G'.get? e = none := ge2 e (by simp)
    have old : ∀ b o, g0.get? b = some o → G'.get? b = some o := fun b o q => (same b (Nat.ne_of_lt (Nat.lt_of_lt_of_le (Heap.lt_size q) M.big))).trans (M.keep b o q)
    have ob : ObjOk X.prog X.w (upd H1 d (.xd [(("field" : Str), V.str z)])) G' d (.xd [(("field" : Str), V.str z)]) := ⟨_, M.ns.at (fun o q => (same d M.dne).trans q), fun f => relO_field (v := V.str z) ⟨tk, rfl⟩ f⟩
    have J : Inv X pins σ (upd H1 d (.xd [(("field" : Str), V.str z)])) ⟨G', gs, dr, t', os⟩ := I1.laid (t' := t') old M.dbig ob
    refine ⟨e, _, _, ⟨G', gs, dr, t', os⟩, _, .ref C, some d, rfl, J, fun b o q => ?_, gone, ho, ⟨rfl, rfl, fun vs e => by cases e; rfl⟩, rfl, rfl, ?_, rfl, I1.bare, raises_own T.exC T.tyC, q1 d (I1.hok.fresh M.dbig)⟩
    · by_cases hb : b = e
      · have q' : G'.get? b = some o := q
        rw [hb, gone] at q'
        cases q'
      · exact (same b hb).symm.trans q
    · rw [upd_ne (Ne.symm M.dne)]
      exact I1.hok.fresh M.big
theorem okN {P : Program} {w : World} {K : PySem.W.Frag} {mg : Str → Option Value} {base : Heap} {x qual : Str} {st : Stmt} {f : Addr} {fd : FuncData} {N ps : List Str} {k : Nat} {sp : Sp} (F : Fun K x qual st f fd) (S : FnScope N ps (defScope st)) (len : ∀ vs H Q E, sp vs H Q E → vs.length = ps.length)
    (hbody : ∀ (cdv : Value) (A : Around) (outer : List Env) (s : Shared) (H : Hp) (vs : List V) (Q : VK) (E : XK), Room k (A.deeper (envOfC qual (defScope st) s.heap.objs.size f cdv)) → sp vs H Q E →
      ∃ t, PSs (cxOf (L2N.CX P w) P w K mg base N qual (defScope st) f cdv A outer s H E) (defBody st) t ∧ t { nx := fun _ H' => Q .non H', rt := Q } (L2.start N vs) H) : FnOk P w K mg base (L2N.CX P w) (k + 1) f fd ps sp := by
  obtain ⟨oc, od, kV, doc, pm, an, cdv, ct, osl, rfl, lk, hcd⟩ := F.ex
  exact fn_of lk hcd S len fun A outer s H vs Q E hr hsp => hbody cdv A outer s H vs Q E hr hsp
end Fs
namespace Fs
open PySem L2 Evl FsE FsC FsR
theorem ok_demandN {P : Program} {w : World} {K : PySem.W.Frag} {mg : Str → Option Value} {base : Heap} {CB : Addr} {f : Addr} {fd : FuncData} {k : Nat} (F : Fun K "demand" "demand" (topS 23) f fd) (R : RaisesXN P w K mg base "BadTerm" CB "field" k) : FnOk P w K mg base (L2N.CX P w) (k + 1) f fd ["allowed", "field"] (spDemand CB) := by
  refine okN F scDemand (fun vs H Q E h => ?_) (fun cdv A outer s H vs Q E hr h => ?_)
  · obtain ⟨b, z, rfl, _⟩ := h
    rfl
  · obtain ⟨b, z, rfl, hz, k1, k2⟩ := h
    refine ⟨_, pss_one (ps_if (pt_not (pt_val (pv 0))) (pss_one (L2N.ps_raise (W := fun cls d _ H => E cls d H) rfl (L2N.takes_of rfl rfl rfl rfl) (R _ rfl rfl rfl rfl rfl hr _ _ _ _ (pa_cons (pv 1) pa_nil) (by rfl) (by rfl) (by rfl)))) pss_nil), ?_⟩
    refine s_if (et_not (et_B (ev_var rfl))) (fun hb H1 e1 => ?_) (fun hb H1 e1 => ?_)
    · have hb' : b = false := by simpa using hb
      refine ⟨_, rfl, z, rfl, hz, fun d hd => ?_⟩
      exact k2 hb' d _ (e1.trans (Ex.new hd)) (fresh_back e1 hd) upd_same
    · have hb' : b = true := by simpa using hb
      exact k1 hb' H1 e1
end Fs

set_option Elab.async false
set_option linter.all false
set_option maxRecDepth 100000
set_option maxHeartbeats 2000000
/-! What is made of a list or a tuple; tuples put together. -/
namespace FsA
open PySem L2 Evl FsE FsC FsR Fs
def SqA (K : PySem.W.Frag) (H : Hp) (l : Addr) (xs : List V) : Prop := SqL K H l xs ∨ H l = some (.tup xs)
theorem SqA.ex {K : PySem.W.Frag} {H H' : Hp} (e : Ex H H') {l : Addr} {xs : List V} (h : SqA K H l xs) : SqA K H' l xs := h.elim (fun z => .inl (ex_l e z)) fun z => .inr (e _ _ z)
/-- a list or tuple -/
def EvSeq (K : PySem.W.Frag) (te : TE) (σ : L2.St) (H : Hp) (xs : List V) : Prop := ∀ H1, Ex H H1 → ∀ Q : VK, (∀ p H2, Ex H1 H2 → SqA K H2 p xs → Q (.ref p) H2) → te σ H1 Q
/-- a tuple -/
def EvQ (te : TE) (σ : L2.St) (H : Hp) (xs : List V) : Prop := ∀ H1, Ex H H1 → ∀ Q : VK, (∀ p H2, Ex H1 H2 → H2 p = some (.tup xs) → Q (.ref p) H2) → te σ H1 Q
section
variable {σ : L2.St} {H : Hp} {te ta tb : TE} {K : PySem.W.Frag} {C : Addr} {xs ys : List V}
theorem eq_l (h : EvL te σ H xs) : EvSeq K te σ H xs := fun H1 e Q q => h H1 e _ fun p H2 _ e2 h2 => q p H2 e2 (.inl (sq_of h2))
theorem eq_v {p : Addr} (h : Ev te σ H (.ref p)) (hp : SqA K H p xs) : EvSeq K te σ H xs := fun H1 e Q q => h H1 e _ fun H2 e2 => q p H2 e2 (hp.ex (e.trans e2))
theorem eq_q (h : EvQ te σ H xs) : EvSeq K te σ H xs := fun H1 e Q q => h H1 e _ fun p H2 e2 h2 => q p H2 e2 (.inr h2)
theorem s_fldQ {tv ta : TE} {a dx : Addr} {fs : List (Str × V)} {f : Str} {D : Ends} (hv : EvQ tv σ H xs) (ho : ∀ H1, Ex H H1 → Ev ta σ H1 (.ref a)) (hi : H a = some (.ins C dx fs)) (cl : Cls K C) (n : NoAttr K C f) (hl : fs.length < 1000)
    (k : ∀ t H1, t ≠ a → Ex H H1 → H1 t = some (.tup xs) → D.nx σ (upd H1 a (.ins C dx (putF f (.ref t) fs)))) : sFld K ta tv f D σ H :=
  hv H (Ex.refl H) _ fun t H1 e1 h1 => ho H1 e1 H1 (Ex.refl H1) _ fun H2 e2 => ⟨a, C, dx, fs, rfl, (e1.trans e2) _ _ hi, cl, n, hl, k t H2 (fun z => by
    subst z
    rw [e1 _ _ hi] at h1
    cases h1) (e1.trans e2) (e2 _ _ h1)⟩
/-- tuple(xs), xs a list or tuple -/
theorem eq_tup {l : Addr} (h : Ev te σ H (.ref l)) (hl : SqA K H l xs) : EvQ (tCB (fun xs H Q => ∃ p ys, xs = [V.ref p] ∧ ((SqL K H p ys ∧ ∀ l, H l = none → Q (.ref l) (upd H l (.tup ys))) ∨ (SqT K H p ys ∧ Q (.ref p) H))) (tCons te tNil)) σ H xs := fun H1 e Q q =>
  h H1 e _ fun H2 e2 => ⟨l, xs, rfl, by
    rcases hl with hl | hl
    · exact .inl ⟨ex_l (e.trans e2) hl, fun p hp => q p _ (e2.trans (Ex.new hp)) upd_same⟩
    · exact .inr ⟨st_of ((e.trans e2) _ _ hl), q l H2 e2 ((e.trans e2) _ _ hl)⟩⟩
theorem eq_cat (ha : EvQ ta σ H xs) (hb : EvQ tb σ H ys) (hz : xs.length + ys.length ≤ 100000) : EvQ (tOp (rCatA K) ta tb) σ H (xs ++ ys) := fun H1 e Q q =>
  ha H1 e _ fun p H2 e2 h2 => hb H2 (e.trans e2) _ fun r H3 e3 h3 => by
    have k2 := e3 _ _ h2
    refine ⟨p, r, xs, ys, rfl, rfl, st_of k2, st_of h3, sz_of (by omega), fun z => ?_, fun _ z => ?_, fun _ _ u hu => ?_⟩
    · subst z
      exact q r H3 (e2.trans e3) h3
    · subst z
      exact q p H3 (e2.trans e3) (by rw [List.append_nil]; exact k2)
    · exact q u _ ((e2.trans e3).trans (Ex.new hu)) upd_same
theorem eq_u (h : EvU te σ H xs) : EvQ te σ H xs := fun H1 e Q q => h H1 e _ fun p H2 _ e2 h2 => q p H2 e2 h2
end
end FsA

set_option Elab.async false
set_option maxRecDepth 100000
set_option maxHeartbeats 4000000
namespace FsR
open PySem PySem.Spec PyProof.Rows L2
theorem tuple_mul1 (l : Addr) (items : Array Value) (n : Nat) (dd : Option Addr) (sl : Array (Option Value)) (x : Int) (u : Tok) (c0 : (decide (x < -(2 ^ 63)) || decide (x ≥ 2 ^ 63)) = false) (c1 : (items.isEmpty || x == 1) = true) :
    Meets (Builtin.«tuple.__mul__» ⟨[.ref l, .int x u], []⟩) (fun _ R s => s.heap.get? l = some { cls := .type "tuple", dict := dd, data := .seq items n, slots := sl } ∧ R (.ok (.ret (.ref l))) s) :=
  .of_wp fun prog w A R s h => by
    obtain ⟨hp, g, d, tk, os⟩ := s
    obtain ⟨hl, h⟩ := h
    have f1 := AutoSeq1.idx_int
    wp_walk using wpAny_loadPart' hl
    refine wpAny_ite_false (decide_eq_false (by rw [c0]; exact Bool.false_ne_true)) ?_
    wp_walk using wpAny_loadPart' hl
    exact ⟨_, rfl, h⟩
theorem tuple_mul0 (l : Addr) (items : Array Value) (n : Nat) (dd : Option Addr) (sl : Array (Option Value)) (x : Int) (u : Tok) (c0 : (decide (x < -(2 ^ 63)) || decide (x ≥ 2 ^ 63)) = false) (c1 : (items.isEmpty || x == 1) = false) (c2 : (decide (x ≤ 0) || items.isEmpty) = true) :
    Meets (Builtin.«tuple.__mul__» ⟨[.ref l, .int x u], []⟩) (fun _ R s => s.heap.get? l = some { cls := .type "tuple", dict := dd, data := .seq items n, slots := sl } ∧
      R (.ok (.ret (Value.ref s.heap.objs.size))) { s with heap := s.heap.push { cls := Value.type "tuple", data := Data.seq #[] } }) :=
  .of_wp fun prog w A R s h => by
    obtain ⟨hp, g, d, tk, os⟩ := s
    obtain ⟨hl, h⟩ := h
    have f1 := AutoSeq1.idx_int
    wp_walk using wpAny_loadPart' hl
    refine wpAny_ite_false (decide_eq_false (by rw [c0]; exact Bool.false_ne_true)) ?_
    wp_walk using wpAny_loadPart' hl
    exact ⟨_, rfl, h⟩
def rRepA (K : PySem.W.Frag) : R2 := fun x y H Q => ∃ l k xs, x = .ref l ∧ y = .int k ∧ SqT K H l xs ∧ -1000 ≤ k ∧ k ≤ 1000 ∧ xs.length ≤ 1000 ∧ (xs = [] ∨ k = 1 → Q (.ref l) H) ∧ (xs ≠ [] → k ≤ 0 → ∀ p, H p = none → Q (.ref p) (upd H p (.tup []))) ∧
  (xs ≠ [] → 2 ≤ k → ∀ p, H p = none → Q (.ref p) (upd H p (.tup (List.replicate k.toNat xs).flatten)))
theorem op_repA {X : Cx} : OpR X (binaryOp .Mult) (rRepA X.K) := by
  intro pins s σ H x y v u Q I rx ry h
  obtain ⟨l, k, xs, rfl, rfl, hT, h0, h2, hz, q1, q0, q2⟩ := h
  by_cases hx : xs = [] ∨ k = 1 ∨ k ≤ 0
  · cases rx
    obtain ⟨t, rfl⟩ := ry
    obtain ⟨its, r, ⟨⟨cls, dd, data, sl⟩, ho, hc, n, hd⟩, hs⟩ := I.tuple hT
    simp only at hc hd
    subst hc hd
    have hl : its.length = xs.length := r.length.symm
    have c0 : (decide (k < -(2 ^ 63)) || decide (k ≥ 2 ^ 63)) = false := by
      rw [decide_eq_false (by omega), decide_eq_false (by omega)] <;> rfl
    have hem : its.toArray.isEmpty = true ↔ xs = [] := by
      rw [Array.isEmpty_iff_size_eq_zero, List.size_toArray, hl]
      exact ⟨List.eq_nil_of_length_eq_zero, fun z => by rw [z]; rfl⟩
    by_cases h1 : xs = [] ∨ k = 1
    · have c1 : (its.toArray.isEmpty || k == 1) = true := by
        rw [Bool.or_eq_true, hem, beq_iff_eq]
        exact h1
      refine wpAny_binaryOp_repeat_ref (T := "tuple") (U := "int") (by decide) ⟨_, ho, rfl⟩ (fun s' => typeIs_int s' k t) noFill_tuple_mul F.fills_int_mul F.slot_int_rmul repeat_tuple F.slot_int_index.lookup
        (call_meets F.slot_int_rmul (typeIs_int s k t) F.entry_int_rmul (F.args_int_rmul_2 _ _) (int_rmul_tuple k t l its.toArray n dd sl) ⟨ho, rfl, ⟨_, ho, rfl⟩, call_meets F.slot_tuple_mul ⟨_, ho, rfl⟩ F.entry_tuple_mul (F.args_tuple_mul_2 _ _) (tuple_mul1 l its.toArray n dd sl k t c0 c1) ⟨ho, ?_⟩⟩)
      exact ⟨.ref l, H, I, rfl, q1 h1⟩
    · have hne : xs ≠ [] := fun z => h1 (.inl z)
      have hk : k ≤ 0 := by
        rcases hx with z | z | z
        · exact absurd z hne
        · exact absurd (.inr z) h1
        · exact z
      have c1 : (its.toArray.isEmpty || k == 1) = false := by
        cases e : (its.toArray.isEmpty || k == 1) with
        | false => rfl
        | true =>
          rw [Bool.or_eq_true, hem, beq_iff_eq] at e
          exact absurd e h1
      have c2 : (decide (k ≤ 0) || its.toArray.isEmpty) = true := by rw [decide_eq_true hk]; rfl
      refine wpAny_binaryOp_repeat_ref (T := "tuple") (U := "int") (by decide) ⟨_, ho, rfl⟩ (fun s' => typeIs_int s' k t) noFill_tuple_mul F.fills_int_mul F.slot_int_rmul repeat_tuple F.slot_int_index.lookup
        (call_meets F.slot_int_rmul (typeIs_int s k t) F.entry_int_rmul (F.args_int_rmul_2 _ _) (int_rmul_tuple k t l its.toArray n dd sl) ⟨ho, rfl, ⟨_, ho, rfl⟩, call_meets F.slot_tuple_mul ⟨_, ho, rfl⟩ F.entry_tuple_mul (F.args_tuple_mul_2 _ _) (tuple_mul0 l its.toArray n dd sl k t c0 c1 c2) ⟨ho, ?_⟩⟩)
      exact ⟨.ref s.heap.objs.size, _, I.laid (t' := s.toks) (o := .tup []) (fun b ob q => Heap.get?_push_of_some _ q) (Nat.le_refl _) ⟨by show 0 ≤ sizeLine; exact Nat.zero_le _, [], .nil, IsTup.new _ _⟩, rfl, q0 hne hk _ (I.hok.fresh (Nat.le_refl _))⟩
  · have hne : xs ≠ [] := fun z => hx (.inl z)
    have hk : 2 ≤ k := by
      have a1 : ¬ k = 1 := fun z => hx (.inr (.inl z))
      have a2 : ¬ k ≤ 0 := fun z => hx (.inr (.inr z))
      omega
    exact op_repT pins s σ H _ _ v u Q I rx ry ⟨l, k, xs, rfl, rfl, hT, hne, hk, h2, hz, q2 hne hk⟩
end FsR

set_option Elab.async false
set_option linter.all false
set_option maxRecDepth 100000
set_option maxHeartbeats 4000000
/-! nets in the heap: their making, their members -/
namespace Fs
open PySem L2 Evl FsE FsC FsR FsA
def NtAt (N : Addr) (H : Hp) (a : Addr) (ps : List V) : Prop := ∃ dx t, H a = some (.ins N dx [("members", .ref t)]) ∧ H t = some (.tup ps)
theorem NtAt.ex {N : Addr} {H H' : Hp} (e : Ex H H') {a : Addr} {ps : List V} (h : NtAt N H a ps) : NtAt N H' a ps := by
  obtain ⟨dx, t, h1, h2⟩ := h
  exact ⟨dx, t, e _ _ h1, e _ _ h2⟩
theorem nt_lookup {t : Addr} : List.lookup ("members" : Str) [("members", V.ref t)] = some (.ref t) := by
  rw [List.lookup_cons, show (("members" : Str) == "members") = true from by decide +kernel]
/-- what the text has told of nets -/
structure NetT (K : PySem.W.Frag) (mg : Str → Option Value) (C N : Addr) : Prop where
  cl : Cls K N
  nM : NoAttr K N "members"
  mgN : mg "Net" = some (.ref N)
  mgP : mg "Process" = some (.ref C)
  ha : PySem.W.findIn K (.ref N) "__class__" = some (some (.builtin "object.__class__"))
  hn : PySem.W.specialIn K (.builtin "object.__class__") "__get__" = some (some (.builtin "getset_descriptor.__get__"))
  htk : PySem.W.takesIn K (.builtin "object.__class__") = some true
  hm : PySem.W.mroIn K N (.type "object") = some true
  kPN : PySem.W.kitOne K (.ref C) (.ref N) = some false
  kNP : PySem.W.kitOne K (.ref N) (.ref C) = some false
  isi : mg "isinstance" = none
  len : mg "len" = none
  tuple : mg "tuple" = none
  max : mg "max" = none
  min : mg "min" = none
  most : GC mg "MOST_MACHINES" (.int 6)
theorem tyx_nt {K : PySem.W.Frag} {mg : Str → Option Value} {C N : Addr} (T : NetT K mg C N) {H : Hp} {a : Addr} {ps : List V} (h : NtAt N H a ps) : ∀ H1, Ex H H1 → TyX K H1 (.ref a) (.ref N) := fun H1 e => by
  obtain ⟨dx, t, h1, _⟩ := h
  exact .base (.ins (e _ _ h1) T.cl T.ha T.hn T.htk T.hm)
/-- a net, or one process -/
def MbAt (C N : Addr) (H : Hp) (a : Addr) (ps : List V) : Prop := NtAt N H a ps ∨ ((∃ p, PrAt C H a p) ∧ ps = [.ref a])
theorem MbAt.ex {C N : Addr} {H H' : Hp} (e : Ex H H') {a : Addr} {ps : List V} (h : MbAt C N H a ps) : MbAt C N H' a ps := h.elim (fun z => .inl (z.ex e)) fun ⟨⟨p, z⟩, y⟩ => .inr ⟨⟨p, z.ex e⟩, y⟩
/-- k times, as the program counts -/
def reps (k : Int) (ps : List V) : List V := (List.replicate (max 0 (min k 7)).toNat ps).flatten
section
variable {P : Program} {w : World} {K : PySem.W.Frag} {mg : Str → Option Value} {base : Heap} {C N CB : Addr}
theorem ev_mem {σ : L2.St} {H : Hp} {ta : TE} (T : NetT K mg C N) {a : Addr} {ps : List V} (h : Ev ta σ H (.ref a)) (hn : NtAt N H a ps) : EvQ (tFld K ta "members") σ H ps := fun H1 e Q q =>
  h H1 e _ fun H2 e2 => by
    obtain ⟨dx, t, h1, h2⟩ := hn.ex (e.trans e2)
    exact ⟨a, N, dx, _, .ref t, rfl, h1, T.cl, T.nM, nt_lookup, q t H2 e2 h2⟩
theorem s_retQ {σ : L2.St} {H : Hp} {te : TE} {D : Ends} {xs : List V} (h : EvQ te σ H xs) (k : ∀ t H1, Ex H H1 → H1 t = some (.tup xs) → D.rt (.ref t) H1) : tRet te D σ H := h H (Ex.refl H) _ k
/-- members_of -/
def spMem (C N : Addr) : Sp := fun vs H Q _ => ∃ (a : Addr) (ps : List V), vs = [.ref a] ∧ MbAt C N H a ps ∧ ∀ t H', Ex H H' → H' t = some (.tup ps) → Q (.ref t) H'
theorem scMem : FnScope ["term"] ["term"] (defScope (topS 30)) := ⟨rfl, rfl, rfl, by decide +kernel, rfl, by decide +kernel, by decide +kernel⟩
theorem ok_mem {f : Addr} {fd : FuncData} (F : Fun K "members_of" "members_of" (topS 30) f fd) (T : NetT K mg C N) (TP : TerT K mg C CB) : FnOk P w K mg base CX0 1 f fd ["term"] (spMem C N) := by
  refine F.ok scMem (fun vs H Q E h => ?_) (fun cdv A outer s H vs Q E hr h => ?_)
  · obtain ⟨a, ps, rfl, _⟩ := h
    rfl
  · obtain ⟨a, ps, rfl, hm, q⟩ := h
    refine ⟨_, pss_cons (ps_if (pt_val (pe_callB (id := "isinstance") (r := rIsi K) call_isi (by rfl) T.isi (by decide +kernel) (pa_cons (pv 0) (pa_cons (pe_glob (v := .ref N) (by rfl) T.mgN rfl) pa_nil)))) (pss_one (ps_ret (pe_fld (pv 0) rfl))) pss_nil)
      (pss_one (ps_ret (pe_tup (pa_cons (pv 0) pa_nil)))), ?_⟩
    rcases hm with hn | ⟨⟨p, hp⟩, rfl⟩
    · refine q_when (b := true) (et_B (ev_cb (ea_cons (ev_var rfl) (ea_cons ev_c ea_nil)) (rc_isiOwn (tyx_nt T hn) kOwn))) (fun _ H1 e1 => ?_) (fun hb => nomatch hb)
      exact s_retQ (ev_mem T (ev_var rfl) (hn.ex e1)) (fun t H2 e2 h2 => q t H2 (e1.trans e2) h2)
    · refine q_when (b := false) (et_B (ev_cb (ea_cons (ev_var rfl) (ea_cons ev_c ea_nil)) (rc_isiOwn (tyx_pr TP hp) T.kPN))) (fun hb => nomatch hb) (fun _ H1 e1 => ?_)
      exact s_retQ (eq_u (eu_tup (ea_cons (ev_var rfl) ea_nil) (by show 1 ≤ 100000; decide))) (fun t H2 e2 h2 => q t H2 (e1.trans e2) h2)
/-- repeated -/
def spRep : Sp := fun vs H Q _ => ∃ (k : Int) (t : Addr) (ps : List V), vs = [.int k, .ref t] ∧ H t = some (.tup ps) ∧ ps.length ≤ 100 ∧ ∀ t' H', Ex H H' → H' t' = some (.tup (reps k ps)) → Q (.ref t') H'
theorem scRep : FnScope ["times", "members"] ["times", "members"] (defScope (topS 31)) := ⟨rfl, rfl, rfl, by decide +kernel, rfl, by decide +kernel, by decide +kernel⟩
theorem ok_rep {f : Addr} {fd : FuncData} (F : Fun K "repeated" "repeated" (topS 31) f fd) (T : NetT K mg C N) : FnOk P w K mg base CX0 1 f fd ["times", "members"] spRep := by
  refine F.ok scRep (fun vs H Q E h => ?_) (fun cdv A outer s H vs Q E hr h => ?_)
  · obtain ⟨k, t, ps, rfl, _⟩ := h
    rfl
  · obtain ⟨k, t, ps, rfl, ht, hz, q⟩ := h
    refine ⟨_, pss_one (ps_ret (pe_op op_repA (pv 1) (pe_callB (call_max2 rfl) (by rfl) T.max (by decide +kernel) (pa_cons pe_int (pa_cons (pe_callB (call_min2 rfl) (by rfl) T.min (by decide +kernel) (pa_cons (pv 0) (pa_cons (pe_op op_add (C8.pe_gc (by rfl) T.most) pe_int) pa_nil))) pa_nil))))), ?_⟩
    have key : EvQ (tOp (rRepA K) (tVar 1) (tCB (fun xs H Q => ∃ i j, xs = [V.int i, V.int j] ∧ Q (.int (if j > i then j else i)) H) (tCons (tC (.int 0)) (tCons (tCB (fun xs H Q => ∃ i j, xs = [V.int i, V.int j] ∧ Q (.int (if j < i then j else i)) H) (tCons (tVar 0) (tCons (tOp (rI0 fun i j => .int (i + j)) (tC (.int 6)) (tC (.int 1))) tNil))) tNil)))) [some (.int k), some (.ref t)] H (reps k ps) := fun H1 e1 Q1 q1 => by
      refine ⟨_, rfl, _, rfl, ⟨6, 1, rfl, rfl, ⟨k, 7, rfl, ⟨0, _, rfl, ?_⟩⟩⟩⟩
      have em : (if (if (7 : Int) < k then (7 : Int) else k) > 0 then (if (7 : Int) < k then (7 : Int) else k) else 0) = max 0 (min k 7) := by
        split <;> split <;> omega
      rw [em]
      have ht1 := e1 _ _ ht
      refine ⟨t, max 0 (min k 7), ps, rfl, rfl, st_of ht1, by omega, by omega, by omega, fun z => q1 t H1 (Ex.refl H1) ?_, fun hne z p hp => q1 p _ (Ex.new hp) ?_, fun hne z p hp => q1 p _ (Ex.new hp) upd_same⟩
      · have : reps k ps = ps := by
          unfold reps
          rcases z with z | z
          · rw [z]
            simp
          · rw [z]
            show (List.replicate 1 ps).flatten = ps
            simp
        rw [this]
        exact ht1
      · have z0 : max 0 (min k 7) = 0 := by omega
        have : reps k ps = [] := by
          unfold reps
          rw [z0]
          rfl
        rw [this]
        exact upd_same
    exact s_retQ key (fun t' H' e' h' => q t' H' e' h')
/-- Net(..) -/
def spNtInit (K : PySem.W.Frag) (N CB : Addr) : Sp := fun vs H Q E => ∃ (a dx l : Addr) (xs : List V) (H0 : Hp), vs = [.ref a, .ref l] ∧ H a = some (.ins N dx []) ∧ H0 a = none ∧ Ex H0 H ∧ SqA K H0 l xs ∧ (xs.length ≤ 6 → ∀ H', Ex H0 H' → NtAt N H' a xs → Q .non H') ∧ (6 < xs.length → Bad CB "machines" H0 E)
theorem scNtInit : FnScope ["self", "processes"] ["self", "processes"] (defScope (inClass (topS 28) 0)) := ⟨rfl, rfl, rfl, by decide +kernel, rfl, by decide +kernel, by decide +kernel⟩
theorem ev_lenA {σ : L2.St} {H : Hp} {ta : TE} {l : Addr} {xs : List V} (h : Ev ta σ H (.ref l)) (hl : SqA K H l xs) : Ev (tCB (fun xs H Q => ∃ p ys, xs = [V.ref p] ∧ (SqL K H p ys ∨ SqT K H p ys) ∧ Q (.int ys.length) H) (tCons ta tNil)) σ H (.int (xs.length : Int)) := fun H1 e Q q =>
  h H1 e _ fun H2 e2 => ⟨l, xs, rfl, (hl.ex (e.trans e2)).elim .inl fun z => .inr (st_of z), q H2 e2⟩
theorem ok_ntinit {f : Addr} {fd : FuncData} {k : Nat} (F : Fun K "__init__" "Net.__init__" (inClass (topS 28) 0) f fd) (T : NetT K mg C N) (GD : CalX P w K mg base (L2N.CX P w) k "demand" (spDemand CB)) : FnOk P w K mg base (L2N.CX P w) (k + 1) f fd ["self", "processes"] (spNtInit K N CB) := by
  refine okN F scNtInit (fun vs H Q E h => ?_) (fun cdv A outer s H vs Q E hr h => ?_)
  · obtain ⟨a, dx, l, xs, H0, rfl, _⟩ := h
    rfl
  · obtain ⟨a, dx, l, xs, H0, rfl, ha, hna, e0, hl, q1, q2⟩ := h
    refine ⟨_, pss_cons (ps_expr (pe_cx (E := WE (fun cls d _ H => E cls d H)) GD hr (Nat.le_refl _) (by rfl) (fun σ => L2N.passAt (L2N.takes_of rfl rfl rfl rfl) σ) (pa_cons (pe_cmpR op_le (pe_callB call_len_seq (by rfl) T.len PySem.boot_len (pa_cons (pv 1) pa_nil)) (C8.pe_gc (by rfl) T.most) (nomark _)) (pa_cons pe_str pa_nil))))
      (pss_one (ps_fld (pv 0) (pe_callTy call_tuple_of (by rfl) T.tuple (by decide +kernel) (pa_cons (pv 1) pa_nil)) rfl)), ?_⟩
    refine q_demand (b := decide ((xs.length : Int) ≤ 6)) (by decide +kernel) (ev_op (ev_lenA (K := K) (ev_var rfl) (hl.ex e0)) ev_c rv_I0) (fun hb H1 e1 => ?_) (fun hb => ?_)
    · have hz : xs.length ≤ 6 := by have := of_decide_eq_true hb; omega
      refine s_fldQ (xs := xs) (eq_tup (ev_var rfl) ((hl.ex e0).ex e1)) (fun H2 e2 => ev_var rfl) (e1 _ _ ha) T.cl T.nM (by show 0 < 1000; decide) (fun t H2 ht e2 h2 => ?_)
      exact q1 hz _ (Ex.mut ((e0.trans e1).trans e2) hna) ⟨dx, t, upd_same, by rw [upd_ne ht]; exact h2⟩
    · have hz : 6 < xs.length := by have := of_decide_eq_false hb; omega
      exact (q2 hz).ex e0
end
end Fs

set_option Elab.async false
set_option linter.all false
set_option maxRecDepth 100000
set_option maxHeartbeats 4000000
/-! nets: len, == -/
namespace Fs
open PySem L2 Evl FsE FsC FsR FsA FsQ
def PrsAt (C : Addr) (H : Hp) : List V → List Pr → Prop
  | [], [] => True
  | x :: xs, p :: ps => (∃ a, x = .ref a ∧ PrAt C H a p) ∧ PrsAt C H xs ps
  | _, _ => False
theorem PrsAt.ex {C : Addr} {H H' : Hp} (e : Ex H H') : ∀ {xs : List V} {ps : List Pr}, PrsAt C H xs ps → PrsAt C H' xs ps
  | [], [], _ => trivial
  | [], _ :: _, h => h.elim
  | _ :: _, [], h => h.elim
  | _ :: _, _ :: _, ⟨⟨a, h1, h2⟩, h3⟩ => ⟨⟨a, h1, h2.ex e⟩, h3.ex e⟩
theorem PrsAt.uniq {C : Addr} {H : Hp} : ∀ {xs : List V} {ps qs : List Pr}, PrsAt C H xs ps → PrsAt C H xs qs → ps = qs
  | [], [], [], _, _ => rfl
  | [], _ :: _, _, h, _ => h.elim
  | [], [], _ :: _, _, g => g.elim
  | _ :: _, [], _, h, _ => h.elim
  | _ :: _, _ :: _, [], _, g => g.elim
  | _ :: _, _ :: _, _ :: _, ⟨⟨a, h1, h2⟩, h3⟩, ⟨⟨b, g1, g2⟩, g3⟩ => by
    subst h1
    cases g1
    rw [h2.uniq g2, h3.uniq g3]
theorem PrsAt.len {C : Addr} {H : Hp} : ∀ {xs : List V} {ps : List Pr}, PrsAt C H xs ps → xs.length = ps.length
  | [], [], _ => rfl
  | [], _ :: _, h => h.elim
  | _ :: _, [], h => h.elim
  | _ :: _, _ :: _, ⟨_, h3⟩ => by rw [List.length_cons, List.length_cons, h3.len]
theorem PrsAt.cat {C : Addr} {H : Hp} : ∀ {xs ys : List V} {ps qs : List Pr}, PrsAt C H xs ps → PrsAt C H ys qs → PrsAt C H (xs ++ ys) (ps ++ qs)
  | [], _, [], _, _, g => g
  | [], _, _ :: _, _, h, _ => h.elim
  | _ :: _, _, [], _, h, _ => h.elim
  | _ :: _, _, _ :: _, _, ⟨h1, h3⟩, g => ⟨h1, h3.cat g⟩
theorem PrsAt.rep {C : Addr} {H : Hp} {xs : List V} {ps : List Pr} (h : PrsAt C H xs ps) : ∀ n : Nat, PrsAt C H (List.replicate n xs).flatten (List.replicate n ps).flatten
  | 0 => trivial
  | n + 1 => by
    rw [List.replicate_succ, List.replicate_succ, List.flatten_cons, List.flatten_cons]
    exact h.cat (h.rep n)
theorem zip_prs {C : Addr} {d : Nat} {H : Hp} : ∀ {xs ys : List V} {ps qs : List Pr}, (∀ p ∈ ps, p.depth ≤ (d : Int)) → PrsAt C H xs ps → PrsAt C H ys qs → ∃ bs, ZipB (CIns C (RPrB C d)) xs ys bs H ∧ (bs.all id && (xs.length == ys.length)) = same ps qs
  | [], [], [], [], _, _, _ => ⟨[], trivial, (same_self _).symm⟩
  | [], _ :: _, [], _ :: _, _, _, _ => ⟨[], trivial, same_is ⟨fun z => by simp at z, fun z => nomatch z⟩⟩
  | _ :: _, [], _ :: _, [], _, _, _ => ⟨[], trivial, same_is ⟨fun z => by simp at z, fun z => nomatch z⟩⟩
  | [], _, _ :: _, _, _, h, _ => h.elim
  | _ :: _, _, [], _, _, h, _ => h.elim
  | _, [], _, _ :: _, _, _, g => g.elim
  | _, _ :: _, _, [], _, _, g => g.elim
  | x :: xs, y :: ys, p :: ps, q :: qs, hd, ⟨⟨a, h1, h2⟩, h3⟩, ⟨⟨b, g1, g2⟩, g3⟩ => by
    obtain ⟨bs, z1, z2⟩ := zip_prs (fun r hr => hd r (List.mem_cons_of_mem _ hr)) h3 g3
    obtain ⟨t, ps1, ⟨dx, k1⟩, _⟩ := h2.out
    obtain ⟨t2, ps2, ⟨dy, k2⟩, _⟩ := g2.out
    refine ⟨same p q :: bs, ⟨⟨a, b, dx, dy, _, _, h1, g1, k1, k2, p, q, hd p (List.mem_cons_self ..), h2, g2, rfl⟩, z1⟩, same_is ?_⟩
    rw [List.all_cons, List.length_cons, List.length_cons]
    have e : (xs.length + 1 == ys.length + 1) = (xs.length == ys.length) := Bool.eq_iff_iff.mpr (by simp)
    rw [e, Bool.and_assoc, z2]
    show (same p q && same ps qs) = true ↔ _
    rw [Bool.and_eq_true, same_iff, same_iff, List.cons.injEq]
/-- nets of processes of depth d at most -/
def RNtB (C N : Addr) (d : Nat) (a c : Addr) (b : Bool) (H : Hp) : Prop := ∃ xs ys ps qs, NtAt N H a xs ∧ NtAt N H c ys ∧ PrsAt C H xs ps ∧ PrsAt C H ys qs ∧ (∀ p ∈ ps, p.depth ≤ (d : Int)) ∧ b = same ps qs
section
variable {P : Program} {w : World} {K : PySem.W.Frag} {mg : Str → Option Value} {base : Heap} {C N CB : Addr}
/-- len(net) -/
def spNtLen (N : Addr) : Sp := fun vs H Q _ => ∃ (a : Addr) (xs : List V), vs = [.ref a] ∧ NtAt N H a xs ∧ ∀ H', Ex H H' → Q (.int xs.length) H'
theorem scNtLen : FnScope ["self"] ["self"] (defScope (inClass (topS 28) 1)) := ⟨rfl, rfl, rfl, by decide +kernel, rfl, by decide +kernel, by decide +kernel⟩
theorem ok_ntlen {f : Addr} {fd : FuncData} (F : Fun K "__len__" "Net.__len__" (inClass (topS 28) 1) f fd) (T : NetT K mg C N) : FnOk P w K mg base CX0 1 f fd ["self"] (spNtLen N) := by
  refine F.ok scNtLen (fun vs H Q E h => ?_) (fun cdv A outer s H vs Q E hr h => ?_)
  · obtain ⟨a, xs, rfl, _⟩ := h
    rfl
  · obtain ⟨a, xs, rfl, hn, q⟩ := h
    refine ⟨_, pss_one (ps_ret (pe_callB call_len_seq (by rfl) T.len PySem.boot_len (pa_cons (pe_fld (pv 0) rfl) pa_nil))), ?_⟩
    obtain ⟨dx, t, h1, h2⟩ := hn
    exact s_ret (v := .int (xs.length : Int)) (ev_lenA (K := K) (ev_fld (ev_var rfl) h1 T.cl T.nM nt_lookup) (.inr h2)) q
theorem rcB_mem {X : Cx} {f : Addr} {fd : FuncData} {d n : Nat} {E : XK} (ih : FnOk X.prog X.w X.K X.mg X.base CX0 n f fd ["self", "other"] (spEqB (RPrB C d))) (at_ : PySem.W.findIn X.K (.ref C) "__eq__" = some (some (.ref f))) (fn : PySem.W.isFn X.K (.ref f) = true) (hb : Binds X.K fd ["self", "other"] []) (hx : Passes CX0 X E) : RcB X (n + 1) (CTup (CIns C (RPrB C d))) :=
  rcB_tup (monB_ins fun _ _ _ _ _ e h => h.ext e) ((rcB_ins ih at_ fn hb hx).eqB (fun _ _ _ _ ⟨a, c, _, _, _, _, hx, hy, _⟩ => ⟨a, c, hx, hy⟩) (self_ins fun a b H h => h.self))
/-- net == net -/
theorem scNtEq : FnScope ["self", "other"] ["self", "other"] (defScope (inClass (topS 28) 4)) := ⟨rfl, rfl, rfl, by decide +kernel, rfl, by decide +kernel, by decide +kernel⟩
theorem ok_nteq {f g : Addr} {fd gd : FuncData} {d n : Nat} (F : Fun K "__eq__" "Net.__eq__" (inClass (topS 28) 4) f fd) (T : NetT K mg C N) (TP : TerT K mg C CB) (GE : FnOk P w K mg base CX0 n g gd ["self", "other"] (spEqB (RPrB C d))) (at_ : PySem.W.findIn K (.ref C) "__eq__" = some (some (.ref g))) (fn : PySem.W.isFn K (.ref g) = true) (hb : Binds K gd ["self", "other"] []) :
    FnOk P w K mg base CX0 (n + 3) f fd ["self", "other"] (spEqB (RNtB C N d)) := by
  refine F.ok scNtEq (fun vs H Q E h => ?_) (fun cdv A outer s H vs Q E hr h => ?_)
  · obtain ⟨a, c, b, rfl, _⟩ := h
    rfl
  · obtain ⟨a, c, b, rfl, ⟨xs, ys, ps, qs, hn, hm, hp, hq, hd, hbb⟩, k⟩ := h
    refine ⟨_, pss_one (ps_ret (pe_and (pe_callB (id := "isinstance") (r := rIsi K) call_isi (by rfl) T.isi (by decide +kernel) (pa_cons (pv 1) (pa_cons (pe_glob (v := .ref N) (by rfl) T.mgN rfl) pa_nil)))
      (pe_one (pe_cmpR (op_eqB (n := n + 1) (D := CTup (CIns C (RPrB C d))) (rcB_mem GE at_ fn hb pass0) (hr.mono (by omega))) (pe_fld (pv 0) rfl) (pe_fld (pv 1) rfl) (nomark _))))), ?_⟩
    obtain ⟨dx, t, h1, h2⟩ := hn
    obtain ⟨dy, t', g1, g2⟩ := hm
    refine s_ret (v := .bl b) (ev_is (ev_andV (a := true) (b := same ps qs) (ev_cb (ea_cons (ev_var rfl) (ea_cons ev_c ea_nil)) (rc_isiOwn (tyx_nt T ⟨dy, t', g1, g2⟩) kOwn)) (fun _ => ?_)) ?_) k
    · refine ev_op (ev_fld (ev_var rfl) h1 T.cl T.nM nt_lookup) (ev_fld (ev_var rfl) g1 T.cl T.nM nt_lookup) (fun H1 e1 Q' q' => ?_)
      obtain ⟨bs, z1, z2⟩ := zip_prs hd (hp.ex e1) (hq.ex e1)
      exact ⟨same ps qs, ⟨t, t', xs, ys, bs, rfl, rfl, e1 _ _ h2, e1 _ _ g2, z1, z2.symm⟩, fun H2 e2 => q' H2 e2⟩
    · rw [hbb, Bool.true_and]
end
end Fs

set_option Elab.async false
set_option linter.all false
set_option maxRecDepth 100000
set_option maxHeartbeats 4000000
/-! nets: |, n * net -/
namespace Fs
open PySem L2 Evl FsE FsC FsR FsA FsQ
/-- a new net, or refused -/
structure NtMade (N CB : Addr) (xs : List V) (H : Hp) (Q : VK) (E : XK) : Prop where
  ok : xs.length ≤ 6 → ∀ r H', H r = none → Ex H H' → NtAt N H' r xs → Q (.ref r) H'
  bad : 6 < xs.length → Bad CB "machines" H E
theorem NtMade.ex {N CB : Addr} {xs : List V} {H H' : Hp} {Q : VK} {E : XK} (e : Ex H H') (h : NtMade N CB xs H Q E) : NtMade N CB xs H' Q E := ⟨fun z r H2 hr e2 h2 => h.ok z r H2 (fresh_back e hr) (e.trans e2) h2, fun z => (h.bad z).ex e⟩
section
variable {σ : L2.St} {H : Hp} {te ta tb : TE} {K : PySem.W.Frag} {C N CB : Addr} {xs ys : List V} {D : Ends} {E : XK}
theorem ret_net (h : EvSeq K te σ H xs) (md : NtMade N CB xs H D.rt E) : tRet (tMake N (spNtInit K N CB) [] E (tCons te tNil)) D σ H :=
  h H (Ex.refl H) _ fun p H2 e2 hp => fun x dx hx hdx hne => by
    have x0 : Ex H2 (upd (upd H2 dx (.own x)) x (.ins N dx [])) := by
      intro b o hb
      rw [upd_ne (ne_of_none hb hx), upd_ne (ne_of_none hb hdx)]
      exact hb
    exact ⟨x, dx, p, xs, H2, rfl, upd_same, hx, x0, hp, fun z H' e' hr => ⟨rfl, md.ok z x H' (fresh_back e2 hx) (e2.trans e') hr⟩, fun z => (md.bad z).ex e2⟩
theorem eq_mem {F : L2.St → XK} {a : Addr} (h : Ev ta σ H (.ref a)) (hm : MbAt C N H a xs) : EvQ (tCallS (spMem C N) F (tCons ta tNil)) σ H xs := fun H1 e Q q =>
  h H1 e _ fun H2 e2 => ⟨a, xs, rfl, hm.ex (e.trans e2), fun t H' e' ht => q t H' (e2.trans e') ht⟩
theorem eq_rep {F : L2.St → XK} {k : Int} (ha : Ev ta σ H (.int k)) (hb : EvQ tb σ H xs) (hz : xs.length ≤ 100) : EvQ (tCallS spRep F (tCons ta (tCons tb tNil))) σ H (reps k xs) := fun H1 e Q q =>
  ha H1 e _ fun H2 e2 => hb H2 (e.trans e2) _ fun p H3 e3 h3 => ⟨k, p, xs, rfl, h3, hz, fun t H' e' ht => q t H' ((e2.trans e3).trans e') ht⟩
theorem ev_isi2 {x : V} {t : Value} (hx : Ev ta σ H x) (ht : ∀ H1, Ex H H1 → TyX K H1 x t) (h : PySem.W.kitAny K t [.ref C, .ref N] = some true) : Ev (tCB (rIsiT K) (tCons ta (tCons (tTup (tCons (tC (.ref C)) (tCons (tC (.ref N)) tNil))) tNil))) σ H (.bl true) := fun H1 e Q q =>
  hx H1 e _ fun H2 e2 => eu_tup (vs := [.ref C, .ref N]) (H := H2) (σ := σ) (ea_cons ev_c (ea_cons ev_c ea_nil)) (by show 2 ≤ 100000; decide) H2 (Ex.refl H2) _ fun p H3 _ e3 h3 =>
    ⟨x, p, _, t, _, true, rfl, h3, .cons (.own C) (.cons (.own N) .nil), ht H3 ((e.trans e2).trans e3), h, q H3 (e2.trans e3)⟩
end
section
variable {P : Program} {w : World} {K : PySem.W.Frag} {mg : Str → Option Value} {base : Heap} {C N CB : Addr}
theorem ev_isiM {σ : L2.St} {H : Hp} {ta : TE} (T : NetT K mg C N) (TP : TerT K mg C CB) {a : Addr} {xs : List V} (h : Ev ta σ H (.ref a)) (hm : MbAt C N H a xs) : Ev (tCB (rIsiT K) (tCons ta (tCons (tTup (tCons (tC (.ref C)) (tCons (tC (.ref N)) tNil))) tNil))) σ H (.bl true) := by
  rcases hm with hn | ⟨⟨p, hp⟩, _⟩
  · exact ev_isi2 h (tyx_nt T hn) (kitAny_cons T.kNP (fun _ => kitAny_cons kOwn (fun z => nomatch z) (fun _ => rfl)) (fun z => nomatch z))
  · exact ev_isi2 h (tyx_pr TP hp) (kitAny_cons kOwn (fun z => nomatch z) (fun _ => rfl))
/-- net | other -/
def spNtOr (C N CB : Addr) : Sp := fun vs H Q E => ∃ (a b : Addr) (xs ys : List V), vs = [.ref a, .ref b] ∧ NtAt N H a xs ∧ MbAt C N H b ys ∧ xs.length ≤ 40 ∧ ys.length ≤ 40 ∧ NtMade N CB (xs ++ ys) H Q E
theorem scNtOr : FnScope ["self", "other"] ["self", "other"] (defScope (inClass (topS 28) 5)) := ⟨rfl, rfl, rfl, by decide +kernel, rfl, by decide +kernel, by decide +kernel⟩
theorem ok_ntor {f : Addr} {fd : FuncData} {k : Nat} (hk : 1 ≤ k) (F : Fun K "__or__" "Net.__or__" (inClass (topS 28) 5) f fd) (T : NetT K mg C N) (TP : TerT K mg C CB) (MN : MakX P w K mg base (L2N.CX P w) k "Net" N (spNtInit K N CB)) (GM : CalX P w K mg base CX0 1 "members_of" (spMem C N)) : FnOk P w K mg base (L2N.CX P w) (k + 1 + 1) f fd ["self", "other"] (spNtOr C N CB) := by
  refine okN F scNtOr (fun vs H Q E h => ?_) (fun cdv A outer s H vs Q E hr h => ?_)
  · obtain ⟨a, b, xs, ys, rfl, _⟩ := h
    rfl
  · obtain ⟨a, b, xs, ys, rfl, ha, hb, lx, ly, md⟩ := h
    refine ⟨_, pss_cons (ps_if (pt_not (pt_val (pe_callB (id := "isinstance") (r := rIsiT K) call_isiT (by rfl) T.isi (by decide +kernel) (pa_cons (pv 1) (pa_cons (pe_tup (pa_cons (pe_glob (v := .ref C) (by rfl) T.mgP rfl) (pa_cons (pe_glob (v := .ref N) (by rfl) T.mgN rfl) pa_nil))) pa_nil))))) pss_never pss_nil)
      (pss_one (ps_ret (pe_mx MN hr (Nat.le_refl _) (by rfl) (L2N.passes_call (W := fun cls d _ H => E cls d H) (L2N.takes_of rfl rfl rfl rfl) (fun _ _ _ _ h => h)) (pa_cons (pe_op op_catA (pe_fld (pv 0) rfl) (pe_cx (E := fun _ => E0) GM hr (by omega) (by rfl) at0 (pa_cons (pv 1) pa_nil))) pa_nil)))), ?_⟩
    refine q_when (b := false) (et_is (et_not (et_B (ev_isiM T TP (ev_var rfl) hb))) rfl) (fun z => nomatch z) (fun _ H1 e1 => ?_)
    exact ret_net (eq_q (eq_cat (ev_mem T (ev_var rfl) (ha.ex e1)) (eq_mem (ev_var rfl) (hb.ex e1)) (by omega))) (md.ex e1)
/-- process | other -/
def spPrOr (C N CB : Addr) : Sp := fun vs H Q E => ∃ (a b : Addr) (p : Pr) (ys : List V), vs = [.ref a, .ref b] ∧ PrAt C H a p ∧ MbAt C N H b ys ∧ ys.length ≤ 40 ∧ NtMade N CB (.ref a :: ys) H Q E
theorem scPrOr : FnScope ["self", "other"] ["self", "other"] (defScope (inClass (topS 27) 8)) := ⟨rfl, rfl, rfl, by decide +kernel, rfl, by decide +kernel, by decide +kernel⟩
theorem ok_pror {f : Addr} {fd : FuncData} {k : Nat} (hk : 1 ≤ k) (F : Fun K "__or__" "Process.__or__" (inClass (topS 27) 8) f fd) (T : NetT K mg C N) (TP : TerT K mg C CB) (MN : MakX P w K mg base (L2N.CX P w) k "Net" N (spNtInit K N CB)) (GM : CalX P w K mg base CX0 1 "members_of" (spMem C N)) : FnOk P w K mg base (L2N.CX P w) (k + 1 + 1) f fd ["self", "other"] (spPrOr C N CB) := by
  refine okN F scPrOr (fun vs H Q E h => ?_) (fun cdv A outer s H vs Q E hr h => ?_)
  · obtain ⟨a, b, p, ys, rfl, _⟩ := h
    rfl
  · obtain ⟨a, b, p, ys, rfl, ha, hb, ly, md⟩ := h
    refine ⟨_, pss_cons (ps_if (pt_not (pt_val (pe_callB (id := "isinstance") (r := rIsiT K) call_isiT (by rfl) T.isi (by decide +kernel) (pa_cons (pv 1) (pa_cons (pe_tup (pa_cons (pe_glob (v := .ref C) (by rfl) T.mgP rfl) (pa_cons (pe_glob (v := .ref N) (by rfl) T.mgN rfl) pa_nil))) pa_nil))))) pss_never pss_nil)
      (pss_one (ps_ret (pe_mx MN hr (Nat.le_refl _) (by rfl) (L2N.passes_call (W := fun cls d _ H => E cls d H) (L2N.takes_of rfl rfl rfl rfl) (fun _ _ _ _ h => h)) (pa_cons (pe_op op_catA (pe_tup (pa_cons (pv 0) pa_nil)) (pe_cx (E := fun _ => E0) GM hr (by omega) (by rfl) at0 (pa_cons (pv 1) pa_nil))) pa_nil)))), ?_⟩
    refine q_when (b := false) (et_is (et_not (et_B (ev_isiM T TP (ev_var rfl) hb))) rfl) (fun z => nomatch z) (fun _ H1 e1 => ?_)
    have md : NtMade N CB ([V.ref a] ++ ys) H Q E := md
    exact ret_net (xs := [V.ref a] ++ ys) (eq_q (eq_cat (eq_u (eu_tup (ea_cons (ev_var rfl) ea_nil) (by show 1 ≤ 100000; decide))) (eq_mem (ev_var rfl) (hb.ex e1)) (by show 1 + ys.length ≤ 100000; omega))) (md.ex e1)
/-- n * net -/
def spNtMul (C N CB : Addr) : Sp := fun vs H Q E => ∃ (a : Addr) (k : Int) (xs : List V), vs = [.ref a, .int k] ∧ NtAt N H a xs ∧ xs.length ≤ 40 ∧ NtMade N CB (reps k xs) H Q E
theorem scNtMul : FnScope ["self", "other"] ["self", "other"] (defScope (inClass (topS 28) 7)) := ⟨rfl, rfl, rfl, by decide +kernel, rfl, by decide +kernel, by decide +kernel⟩
theorem ok_ntmul {f : Addr} {fd : FuncData} {k : Nat} (hk : 1 ≤ k) (F : Fun K "__rmul__" "Net.__rmul__" (inClass (topS 28) 7) f fd) (T : NetT K mg C N) (GI : CalX P w K mg base CX0 1 "is_int" (spPred intV)) (MN : MakX P w K mg base (L2N.CX P w) k "Net" N (spNtInit K N CB)) (GR : CalX P w K mg base CX0 1 "repeated" spRep) : FnOk P w K mg base (L2N.CX P w) (k + 1 + 1) f fd ["self", "other"] (spNtMul C N CB) := by
  refine okN F scNtMul (fun vs H Q E h => ?_) (fun cdv A outer s H vs Q E hr h => ?_)
  · obtain ⟨a, k, xs, rfl, _⟩ := h
    rfl
  · obtain ⟨a, n, xs, rfl, ha, lx, md⟩ := h
    refine ⟨_, pss_cons (ps_if (pt_not (pt_val (pe_cx (E := fun _ => E0) GI hr (by omega) (by rfl) at0 (pa_cons (pv 1) pa_nil)))) pss_never pss_nil)
      (pss_one (ps_ret (pe_mx MN hr (Nat.le_refl _) (by rfl) (L2N.passes_call (W := fun cls d _ H => E cls d H) (L2N.takes_of rfl rfl rfl rfl) (fun _ _ _ _ h => h)) (pa_cons (pe_cx (E := fun _ => E0) GR hr (by omega) (by rfl) at0 (pa_cons (pv 1) (pa_cons (pe_fld (pv 0) rfl) pa_nil))) pa_nil)))), ?_⟩
    refine q_when (b := false) (et_is (et_not (et_B (ev_cx (z := .bl true) (ea_cons (ev_var rfl) ea_nil) (sp_pred (f := intV) (v := .int n) trivial)))) rfl) (fun z => nomatch z) (fun _ H1 e1 => ?_)
    exact ret_net (eq_q (eq_rep (ev_var rfl) (ev_mem T (ev_var rfl) (ha.ex e1)) (by omega))) (md.ex e1)
/-- n * process -/
def spPrMul (C N CB : Addr) : Sp := fun vs H Q E => ∃ (a : Addr) (k : Int), vs = [.ref a, .int k] ∧ NtMade N CB (reps k [.ref a]) H Q E
theorem scPrMul : FnScope ["self", "other"] ["self", "other"] (defScope (inClass (topS 27) 9)) := ⟨rfl, rfl, rfl, by decide +kernel, rfl, by decide +kernel, by decide +kernel⟩
theorem ok_prmul {f : Addr} {fd : FuncData} {k : Nat} (hk : 1 ≤ k) (F : Fun K "__rmul__" "Process.__rmul__" (inClass (topS 27) 9) f fd) (GI : CalX P w K mg base CX0 1 "is_int" (spPred intV)) (MN : MakX P w K mg base (L2N.CX P w) k "Net" N (spNtInit K N CB)) (GR : CalX P w K mg base CX0 1 "repeated" spRep) : FnOk P w K mg base (L2N.CX P w) (k + 1 + 1) f fd ["self", "other"] (spPrMul C N CB) := by
  refine okN F scPrMul (fun vs H Q E h => ?_) (fun cdv A outer s H vs Q E hr h => ?_)
  · obtain ⟨a, k, rfl, _⟩ := h
    rfl
  · obtain ⟨a, n, rfl, md⟩ := h
    refine ⟨_, pss_cons (ps_if (pt_not (pt_val (pe_cx (E := fun _ => E0) GI hr (by omega) (by rfl) at0 (pa_cons (pv 1) pa_nil)))) pss_never pss_nil)
      (pss_one (ps_ret (pe_mx MN hr (Nat.le_refl _) (by rfl) (L2N.passes_call (W := fun cls d _ H => E cls d H) (L2N.takes_of rfl rfl rfl rfl) (fun _ _ _ _ h => h)) (pa_cons (pe_cx (E := fun _ => E0) GR hr (by omega) (by rfl) at0 (pa_cons (pv 1) (pa_cons (pe_tup (pa_cons (pv 0) pa_nil)) pa_nil))) pa_nil)))), ?_⟩
    refine q_when (b := false) (et_is (et_not (et_B (ev_cx (z := .bl true) (ea_cons (ev_var rfl) ea_nil) (sp_pred (f := intV) (v := .int n) trivial)))) rfl) (fun z => nomatch z) (fun _ H1 e1 => ?_)
    exact ret_net (eq_q (eq_rep (ev_var rfl) (eq_u (eu_tup (ea_cons (ev_var rfl) ea_nil) (by show 1 ≤ 100000; decide))) (by show 1 ≤ 100; decide))) (md.ex e1)
end
end Fs

set_option Elab.async false
set_option linter.all false
set_option maxRecDepth 100000
set_option maxHeartbeats 2000000
/-! o[i] and len(o) by an own class's __getitem__ and __len__; d.update(e); a statement that is never met. -/
namespace FsR
open PySem PySem.Spec PyProof.Rows L2
theorem run_atS {X : Cx} {CX : CXT} {k : Nat} {f : Addr} {fd : FuncData} {ps : List Str} {sp : Sp} {E : L2.St → XK} {pins : List (Addr × Obj)} {σ : L2.St} {H : Hp} {s : Shared} {Q : VK} {us : List Value} {vs : List V} {A : Around} (F : FnOk X.prog X.w X.K X.mg X.base CX k f fd ps sp) (hr : Room k A)
    (he : Env0 X.prog X.w X.K X.mg X.base A X.stack s H) (hb : Binds X.K fd ps []) (hx : PassesAt CX X σ (E σ))
    (I : Inv X pins σ H s) (r : Vals vs us) (h : sp vs H Q (E σ)) : wpAny (model X.prog X.w) A (call (.ref f) us) (EP X pins σ Q) X.xe s := by
  have hl : us.length = ps.length := by rw [← r.length]; exact F.len _ _ _ _ h
  have b := hb s us I.kIn (by rw [List.append_nil]; exact hl)
  rw [List.append_nil] at b
  refine wpAny_call (codeAny_mono (F.run A X.stack s H ⟨us, []⟩ us vs Q (E σ) hr he b r h) fun r s' hq => ?_)
  cases r with
  | error e => exact hx pins H s e s' I hq
  | ok fl =>
    cases fl with
    | ret u => exact I.after hq
    | next => exact False.elim hq
    | brk => exact False.elim hq
    | cont => exact False.elim hq
structure IxM (K : PySem.W.Frag) (C : Addr) (g : Addr) : Prop where
  at_ : PySem.W.findIn K (.ref C) "__getitem__" = some (some (.ref g))
  fn : PySem.W.isFn K (.ref g) = true
  fi : PySem.W.fnIn K g = true
/-- o[i] -/
def tIxO (C : Addr) (sp : Sp) (E : L2.St → XK) (ta tb : TE) : TE := fun σ H Q => ta σ H fun x H1 => tb σ H1 fun y H2 => ∃ (a dx : Addr) (fs : List (Str × V)), x = .ref a ∧ H2 a = some (.ins C dx fs) ∧ sp [.ref a, y] H2 Q (E σ)
theorem pe_ixO {X : Cx} {CX : CXT} {k : Nat} {C g : Addr} {fd : FuncData} {ps : List Str} {sp : Sp} {E : L2.St → XK} {ea eb : Expr} {pos : Pos} {ta tb : TE} (ha : PE X ea ta) (hb : PE X eb tb) (M : IxM X.K C g) (F : FnOk X.prog X.w X.K X.mg X.base CX k g fd ps sp) (hr : Room (k + 1) X.A) (hd : Binds X.K fd ps [])
    (hx : ∀ σ, PassesAt CX X σ (E σ)) (hsl : ∀ v i, subscripted eb true v i = runValue (.builtin "lifetime.subscript" ⟨[v, i], []⟩) := by intro _ _; with_unfolding_all rfl) : PE X (.Subscript ea eb pos) (tIxO C sp E ta tb) := by
  refine ⟨fun pins s σ H Q I h => ?_⟩
  refine Subscript_ (binT ha hb I h fun v u s2 x y H2 I2 rx ry q => ?_)
  obtain ⟨a, dx, fs, rfl, h1, q⟩ := q
  obtain rfl : v = Value.ref a := rx
  obtain ⟨_, O1, _, _, _, _⟩ := ins_get I2.hok h1
  obtain ⟨_, i1, _⟩ := O1.look
  obtain ⟨m, fr⟩ := I2.fr
  refine PySem.W.sub_K fr I2.ok.mod.kin i1 M.at_ M.fi M.fn ?_ (hsl _ _)
  exact run_atS (us := [.ref a, u]) (vs := [.ref a, y]) F hr.in1 I2.env0.in1 hd (hx σ) I2 (.cons rfl (.cons ry .nil)) q
structure LenM (K : PySem.W.Frag) (C : Addr) (g : Addr) : Prop where
  at_ : PySem.W.findIn K (.ref C) "__len__" = some (some (.ref g))
  fn : PySem.W.isFn K (.ref g) = true
/-- len(o) -/
def rLenO (C : Addr) (sp : Sp) (E : XK) : List V → Hp → VK → Prop := fun xs H Q => ∃ (a dx : Addr) (fs : List (Str × V)), xs = [.ref a] ∧ H a = some (.ins C dx fs) ∧ sp [.ref a] H (fun v H' => ∃ n : Nat, v = .int (n : Int) ∧ (n : Int) < 2 ^ 63 ∧ Q (.int (n : Int)) H') E
theorem call_lenO {X : Cx} {CX : CXT} {k : Nat} {C g : Addr} {fd : FuncData} {ps : List Str} {sp : Sp} {E : XK} (M : LenM X.K C g) (F : FnOk X.prog X.w X.K X.mg X.base CX k g fd ps sp) (hr : Room (k + 1) X.A) (hd : Binds X.K fd ps [])
    (hx : ∀ σ, PassesAt CX X σ E) : CallR X (.builtin "len") (rLenO C sp E) := by
  intro pins s σ H xs us Q I r h
  obtain ⟨a, dx, fs, rfl, h1, q⟩ := h
  obtain ⟨u, rfl, ru⟩ := vals1 r
  obtain rfl : u = Value.ref a := ru
  obtain ⟨_, O1, _, _, _, _⟩ := ins_get I.hok h1
  obtain ⟨_, i1, _⟩ := O1.look
  obtain ⟨m, fr⟩ := I.fr
  refine PySem.W.len_K fr I.ok.mod.kin i1 M.at_ M.fn (wpAny_mono (run_atS (E := fun _ => E) (us := [.ref a]) (vs := [.ref a]) F hr.in1 I.env0.in1 hd (hx σ) I (.cons rfl .nil) q) (fun w s' z => ?_) fun _ _ x => x)
  obtain ⟨v, H', J, rv, n, ev, hn, q'⟩ := z
  subst ev
  obtain ⟨t, rfl⟩ := rv
  exact ⟨⟨by omega, hn⟩, .int (n : Int), H', J.tok _, ⟨_, rfl⟩, q'⟩
/-- d.update(e) -/
def rUpd : V → List V → Hp → VK → Prop := fun x vs H Q => ∃ (d o : Addr) (kvs more : List (Key × V)), x = .ref d ∧ vs = [.ref o] ∧ d ≠ o ∧ H d = some (.dK kvs) ∧ H o = some (.dK more) ∧ kvs.length + more.length ≤ 100000 ∧ Q .non (upd H d (.dK (mergeK kvs more)))
theorem mt_update {X : Cx} : MtR X "dict.update" rUpd := by
  intro pins s σ H x xs v us Q I rx rv h
  obtain ⟨d, o, kvs, more, rfl, rfl, hne, hd, ho, hz, q⟩ := h
  obtain rfl : v = Value.ref d := rx
  obtain ⟨u, rfl, ru⟩ := vals1 rv
  obtain rfl : u = Value.ref o := ru
  obtain ⟨z1, y1, v1, r1, d1⟩ := dk_of I.hok hd
  obtain ⟨z2, y2, v2, r2, d2⟩ := dk_of I.hok ho
  have hl : v1.length + v2.length ≤ sizeLine := by
    rw [← r1.length, ← r2.length, sizeLine_eq]
    omega
  refine call_meetsIn PySem.F.slot_dict_update d1.typeIs PySem.F.entry_dict_update (PySem.F.args_dict_update_2 _ _) (meets_dict_update (mixKind X.prog X.w) d o hne y2)
    ⟨v1, v2, d1, d2, hl, fun h' dd' _ hs => ?_⟩
  have he : ∃ q, h'.get? d = some q := let ⟨q, _, _, hq, _⟩ := dd'; ⟨q, hq⟩
  refine ⟨.non, _, d_write I (by rw [hd]; exact True.intro) hs he (dk_new ?_ y1 (r2.merge r1) dd'), rfl, q⟩
  have := length_mergeK more kvs
  rw [sizeLine_eq]
  omega
end FsR

set_option Elab.async false
set_option linter.all false
set_option maxRecDepth 100000
set_option maxHeartbeats 4000000
/-! nets: net[k], net |= other -/
namespace Fs
open PySem L2 Evl FsE FsC FsR FsA FsQ
/-- all but what stands at a stays -/
def ExB (a : Addr) (H H' : Hp) : Prop := ∀ c o, c ≠ a → H c = some o → H' c = some o
theorem ExB.of {a : Addr} {H H' : Hp} (e : Ex H H') : ExB a H H' := fun _ _ _ h => e _ _ h
theorem ExB.trans {a : Addr} {H H1 H2 : Hp} (e : ExB a H H1) (e' : ExB a H1 H2) : ExB a H H2 := fun c o hc h => e' c o hc (e c o hc h)
theorem ExB.upd {a : Addr} {H : Hp} {o : HO} : ExB a H (upd H a o) := fun c o' hc h => by rw [upd_ne hc]; exact h
theorem NtAt.keep {N a b : Addr} {H H' : Hp} {xs : List V} (e : ExB a H H') (hn : b ≠ a) {dx t : Addr} (ha : H a = some (.ins N dx [("members", .ref t)])) (h : NtAt N H b xs) : NtAt N H' b xs := by
  obtain ⟨dy, u, h1, h2⟩ := h
  refine ⟨dy, u, e _ _ hn h1, e _ _ (fun z => ?_) h2⟩
  subst z
  rw [ha] at h2
  cases h2
section
variable {σ : L2.St} {H : Hp} {te : TE} {xs : List V} {D : Ends}
theorem eq_qv {p : Addr} (h : Ev te σ H (.ref p)) (hp : H p = some (.tup xs)) : EvQ te σ H xs := fun H1 e Q q => h H1 e _ fun H2 e2 => q p H2 e2 ((e.trans e2) _ _ hp)
theorem q_asgQ {i : Nat} {tz : TS} (h : EvQ te σ H xs) (k : ∀ t H1, Ex H H1 → H1 t = some (.tup xs) → tz D (σ.set i (some (.ref t))) H1) : tSeq (tAsg te (gName i)) tz D σ H := h H (Ex.refl H) _ k
end
section
variable {P : Program} {w : World} {K : PySem.W.Frag} {mg : Str → Option Value} {base : Heap} {C N CB : Addr}
/-- net[k], k within -/
def spNtGet (N : Addr) : Sp := fun vs H Q _ => ∃ (a : Addr) (xs : List V) (i : Nat) (v : V), vs = [.ref a, .int (i : Int)] ∧ NtAt N H a xs ∧ xs[i]? = some v ∧ RetV v H Q
theorem scNtGet : FnScope ["self", "at"] ["self", "at"] (defScope (inClass (topS 28) 3)) := ⟨rfl, rfl, rfl, by decide +kernel, rfl, by decide +kernel, by decide +kernel⟩
theorem ok_ntget {f : Addr} {fd : FuncData} (F : Fun K "__getitem__" "Net.__getitem__" (inClass (topS 28) 3) f fd) (T : NetT K mg C N) (GI : CalX P w K mg base CX0 1 "is_int" (spPred intV)) : FnOk P w K mg base CX0 2 f fd ["self", "at"] (spNtGet N) := by
  refine F.ok scNtGet (fun vs H Q E h => ?_) (fun cdv A outer s H vs Q E hr h => ?_)
  · obtain ⟨a, xs, i, v, rfl, _⟩ := h
    rfl
  · obtain ⟨a, xs, i, v, rfl, ⟨dx, t, h1, h2⟩, hv, q⟩ := h
    refine ⟨_, pss_cons (ps_if (PW.pt (pw_or (pt_not (pt_val (pe_cx (E := fun _ => E0) GI hr (by decide) (by rfl) at0 (pa_cons (pv 1) pa_nil)))) (pw_or1 (pt_cmpR op_lt (pv 1) pe_int (nomark _))))) pss_never pss_nil)
      (pss_one (ps_ret (pe_ix ix_tup (pe_fld (pv 0) rfl) (pv 1) (fun _ _ => rfl)))), ?_⟩
    refine q_when (b := false) (et_is (et_or (et_not (et_B (ev_cx (z := .bl true) (ea_cons (ev_var rfl) ea_nil) (sp_pred (f := intV) (v := .int (i : Int)) trivial)))) (fun _ => et_B (ev_op (ev_var rfl) ev_c rv_I0))) (by
      rw [decide_eq_false (show ¬ (i : Int) < 0 by omega)]; rfl)) (fun hb => nomatch hb) (fun _ H1 e1 => ?_)
    exact s_ret (v := v) (ev_op (y := .int (i : Int)) (ev_fld (ev_var rfl) (e1 _ _ h1) T.cl T.nM nt_lookup) (ev_var rfl) (rv_ixT (st_of (e1 _ _ h2)) (atI_nat hv))) (fun H2 e2 => q H2 (e1.trans e2))
theorem ev_ntix {σ : L2.St} {H : Hp} {ta tb : TE} {E : L2.St → XK} {a : Addr} {xs : List V} {i : Nat} {v : V} (ha : Ev ta σ H (.ref a)) (hb : Ev tb σ H (.int (i : Int))) (hr : NtAt N H a xs) (hv : xs[i]? = some v) : Ev (tIxO N (spNtGet N) E ta tb) σ H v := fun H1 e Q q =>
  ha H1 e _ fun H2 e2 => hb H2 (e.trans e2) _ fun H3 e3 => by
    have r3 := hr.ex ((e.trans e2).trans e3)
    have r3' := r3
    obtain ⟨dx, t, h1, h2⟩ := r3'
    exact ⟨a, dx, _, rfl, h1, a, xs, i, v, rfl, r3, hv, fun H4 e4 => q H4 ((e2.trans e3).trans e4)⟩
/-- net |= other -/
def spNtIor (C N CB : Addr) : Sp := fun vs H Q E => ∃ (a b : Addr) (xs ys : List V), vs = [.ref a, .ref b] ∧ NtAt N H a xs ∧ MbAt C N H b ys ∧ xs.length ≤ 40 ∧ ys.length ≤ 40 ∧ ((xs ++ ys).length ≤ 6 → ∀ H', ExB a H H' → NtAt N H' a (xs ++ ys) → Q (.ref a) H') ∧ (6 < (xs ++ ys).length → Bad CB "machines" H E)
theorem scNtIor : FnScope ["self", "other", "members"] ["self", "other"] (defScope (inClass (topS 28) 6)) := ⟨rfl, rfl, rfl, by decide +kernel, rfl, by decide +kernel, by decide +kernel⟩
theorem ok_ntior {f : Addr} {fd : FuncData} {k : Nat} (hk : 1 ≤ k) (F : Fun K "__ior__" "Net.__ior__" (inClass (topS 28) 6) f fd) (T : NetT K mg C N) (TP : TerT K mg C CB) (GD : CalX P w K mg base (L2N.CX P w) k "demand" (spDemand CB)) (GM : CalX P w K mg base CX0 1 "members_of" (spMem C N)) : FnOk P w K mg base (L2N.CX P w) (k + 1) f fd ["self", "other"] (spNtIor C N CB) := by
  refine okN F scNtIor (fun vs H Q E h => ?_) (fun cdv A outer s H vs Q E hr h => ?_)
  · obtain ⟨a, b, xs, ys, rfl, _⟩ := h
    rfl
  · obtain ⟨a, b, xs, ys, rfl, ha, hb, lx, ly, q1, q2⟩ := h
    refine ⟨_, pss_cons (ps_if (pt_not (pt_val (pe_callB (id := "isinstance") (r := rIsiT K) call_isiT (by rfl) T.isi (by decide +kernel) (pa_cons (pv 1) (pa_cons (pe_tup (pa_cons (pe_glob (v := .ref C) (by rfl) T.mgP rfl) (pa_cons (pe_glob (v := .ref N) (by rfl) T.mgN rfl) pa_nil))) pa_nil))))) pss_never pss_nil)
      (pss_cons (ps_set (i := 2) scNtIor.nd rfl (Or.inl rfl) (pe_op op_catA (pe_fld (pv 0) rfl) (pe_cx (E := fun _ => E0) GM hr (by omega) (by rfl) at0 (pa_cons (pv 1) pa_nil))))
      (pss_cons (ps_expr (pe_cx (E := WE (fun cls d _ H => E cls d H)) GD hr (Nat.le_refl _) (by rfl) (fun σ => L2N.passAt (L2N.takes_of rfl rfl rfl rfl) σ) (pa_cons (pe_cmpR op_le (pe_callB call_len_seq (by rfl) T.len PySem.boot_len (pa_cons (pv 2) pa_nil)) (C8.pe_gc (by rfl) T.most) (nomark _)) (pa_cons pe_str pa_nil))))
      (pss_cons (ps_fld (pv 0) (pv 2) rfl)
      (pss_one (ps_ret (pv 0)))))), ?_⟩
    refine q_when (b := false) (et_is (et_not (et_B (ev_isiM T TP (ev_var rfl) hb))) rfl) (fun z => nomatch z) (fun _ H1 e1 => ?_)
    refine q_asgQ (xs := xs ++ ys) (eq_cat (ev_mem T (ev_var rfl) (ha.ex e1)) (eq_mem (ev_var rfl) (hb.ex e1)) (by omega)) (fun t H2 e2 h2 => ?_)
    refine q_demand (b := decide (((xs ++ ys).length : Int) ≤ 6)) (by decide +kernel) (ev_op (ev_lenA (K := K) (ev_var rfl) (.inr h2)) ev_c rv_I0) (fun hz H3 e3 => ?_) (fun hz => ?_)
    · have hz' : (xs ++ ys).length ≤ 6 := by have := of_decide_eq_true hz; omega
      obtain ⟨dx, u, g1, g2⟩ := ((ha.ex e1).ex e2).ex e3
      have x3 := (e1.trans e2).trans e3
      refine s_fldQ (xs := xs ++ ys) (eq_qv (ev_var rfl) (e3 _ _ h2)) (fun H4 e4 => ev_var rfl) g1 T.cl T.nM (by show 1 < 1000; decide) (fun t' H4 ht e4 h4 => ?_)
      refine s_ret (v := .ref a) (ev_var rfl) (fun H5 e5 => q1 hz' H5 (((ExB.of (x3.trans e4)).trans ExB.upd).trans (ExB.of e5)) ?_)
      exact NtAt.ex e5 ⟨dx, t', upd_same, by rw [upd_ne ht]; exact h4⟩
    · have hz' : 6 < (xs ++ ys).length := by have := of_decide_eq_false hz; omega
      exact (q2 hz').ex (e1.trans e2)
end
end Fs

set_option Elab.async false
set_option linter.all false
set_option maxRecDepth 100000
set_option maxHeartbeats 2000000
namespace Fs
open PySem L2 Evl FsE FsC FsR
def spSize (C : Addr) (f : Pr → Int) : Sp := fun vs H Q _ => ∃ (p : Pr) (t : Addr) (ps : List V), vs = [.str p.kind, .ref t] ∧ H t = some (.tup ps) ∧ ps.length ≤ 100 ∧ PartsAt C H ps p ∧ RetV (.int (f p)) H Q
theorem sp_size {C : Addr} {f : Pr → Int} {p : Pr} {t : Addr} {ps : List V} {H : Hp} (h1 : H t = some (.tup ps)) (h2 : ps.length ≤ 100) (h3 : PartsAt C H ps p) : SpV (spSize C f) [.str p.kind, .ref t] H (.int (f p)) := fun H1 e Q q E =>
  ⟨p, t, ps, rfl, e _ _ h1, h2, h3.ex e, q⟩
theorem hu2_of {A : Around} {k : Nat} (hr : Room k A) : A.units + 1 + 1 < cLine := Nat.lt_of_le_of_lt (by omega : A.units + 1 + 1 ≤ A.units + 64) hr.units
theorem kCh : decide (V.str "choice" = V.str "choice") = true := by decide +kernel
section
variable {P : Program} {w : World} {K : PySem.W.Frag} {mg : Str → Option Value} {base : Heap} {C CB : Addr}
theorem InnOf.short {H : Hp} {ps rs : List V} {p : Pr} (h : InnOf C H ps rs p) (hl : ps.length ≤ 100) : rs.length ≤ 100 := by
  cases p with
  | choice os =>
    have := h.1
    omega
  | new n k r =>
    obtain ⟨b, _, rfl, _⟩ := h
    show 1 ≤ 100
    decide
  | cond l r y n =>
    obtain ⟨b, c, _, rfl, _⟩ := h
    show 2 ≤ 100
    decide
  | call n ops =>
    obtain ⟨u, _, rfl, _⟩ := h
    show 0 ≤ 100
    decide
/-- [process.f for process in (the list)] -/
theorem el_flds {σ : L2.St} {H : Hp} {tl : TE} {j : Nat} {vs : List Nat} {rs : List V} {ps : List Pr} {f : Str} {g : Pr → Int} (hf : ∀ {H : Hp} {a : Addr} {p : Pr}, PrAt C H a p → ∃ dx fs, H a = some (.ins C dx fs) ∧ fs.lookup f = some (.int (g p)))
    (cl : Cls K C) (n : NoAttr K C f) (h : EvL tl σ H rs) (hl : rs.length ≤ 100) (hi : InnAt C H rs ps) (hw : ∀ x, wipe ((wipe σ vs).set j (some x)) vs = wipe σ vs) (hj : ∀ x, ((wipe σ vs).set j (some x))[j]? = some (some x)) :
    EvL (tLc (iList K tl) (gName j) tYes (tFld K (tVar j) f) vs) σ H ((ps.map g).map V.int) := by
  refine el_lcNLy h (by omega) hw (by rw [List.length_map, List.length_map, hi.length]) (fun i x y H1 e hx hy => ?_)
  obtain ⟨a, p, rfl, hp, hps⟩ := InnAt.at_ (hi.ex e) hx
  obtain ⟨dx, fs, h1, h2⟩ := hf hp
  have ey : y = .int (g p) := by
    rw [List.getElem?_map, List.getElem?_map, hps] at hy
    exact (Option.some.inj hy).symm
  subst ey
  exact ev_fld (ev_var (hj _)) h1 cl n h2
theorem fld_depth {H : Hp} {a : Addr} {p : Pr} (h : PrAt C H a p) : ∃ dx fs, H a = some (.ins C dx fs) ∧ fs.lookup ("depth" : Str) = some (.int p.depth) := by
  obtain ⟨t, ps, ⟨dx, h1⟩, _⟩ := h.out
  exact ⟨dx, _, h1, pf_depth⟩
theorem fld_size {H : Hp} {a : Addr} {p : Pr} (h : PrAt C H a p) : ∃ dx fs, H a = some (.ins C dx fs) ∧ fs.lookup ("size" : Str) = some (.int p.size) := by
  obtain ⟨t, ps, ⟨dx, h1⟩, _⟩ := h.out
  exact ⟨dx, _, h1, pf_size⟩
theorem scDepth : FnScope ["kind", "parts", "process"] ["kind", "parts"] (defScope (topS 26)) := ⟨rfl, rfl, rfl, by decide +kernel, rfl, by decide +kernel, by decide +kernel⟩
theorem ok_depth {f : Addr} {fd : FuncData} (F : Fun K "depth_of" "depth_of" (topS 26) f fd) (T : TerT K mg C CB) (GI : CalX P w K mg base CX0 1 "inner_processes" (spInner C)) : FnOk P w K mg base CX0 2 f fd ["kind", "parts"] (spSize C Pr.depth) := by
  refine F.ok scDepth (fun vs H Q E h => ?_) (fun cdv A outer s H vs Q E hr h => ?_)
  · obtain ⟨p, t, ps, rfl, _⟩ := h
    rfl
  · obtain ⟨p, t, ps, rfl, ht, hl, hP, k⟩ := h
    obtain ⟨rs, hI⟩ := hP.inn
    refine ⟨_, pss_one (ps_ret (pe_op op_add pe_int (pe_callBK (ck_maxD rfl (hu2_of hr)) (by rfl) T.max (by decide +kernel) (pa_cons
      (pe_lc (own := [("process", 2)]) (g := gName 2) (tt := tYes) (te := tFld K (tVar 2) "depth") rfl scDepth.nd (pi_list (pe_cx (E := fun _ => E0) GI hr (by decide) (by rfl) at0 (pa_cons (pv 0) (pa_cons (pv 1) pa_nil)))) (blkOk_by (own := [("process", 2)]) (N := ["kind", "parts", "process"]) (sc := defScope (topS 26)) (by decide +kernel))
          (fun _ _ _ _ _ => pg_name (i := 2) scDepth.nd rfl (Or.inl rfl)) (fun _ _ _ _ _ => pts_nil) (fun _ _ _ _ _ => pe_fld (pv 2) rfl)) pa_nil) (pk_cons pe_int pk_nil)))), ?_⟩
    have g : Ev (tOp (rI0 fun i j => .int (i + j)) (tC (.int 1)) (tCKw (FsR.rMaxD K) (tCons (tLc (iList K (tCallS (spInner C) (fun _ => E0) (tCons (tVar 0) (tCons (tVar 1) tNil)))) (gName 2) tYes (tFld K (tVar 2) "depth") [2]) tNil) (tCons (tC (.int 0)) tNil)))
        (start ["kind", "parts", "process"] [.str p.kind, .ref t]) H (.int (1 + maxDef 0 (p.inner.map Pr.depth))) :=
      ev_op ev_c (ev_maxD (el_flds (fun h => fld_depth h) T.cl T.nD (el_cx (ea_cons (ev_var rfl) (ea_cons (ev_var rfl) ea_nil)) (sp_inner ht hl hI)) (hI.short hl) hI.at (fun _ => rfl) (fun _ => rfl))) rv_I0
    rw [Pr.depth_eq] at g
    exact s_ret g k
theorem scSize : FnScope ["kind", "parts", "own", "process"] ["kind", "parts"] (defScope (topS 25)) := ⟨rfl, rfl, rfl, by decide +kernel, rfl, by decide +kernel, by decide +kernel⟩
theorem own_eq {H : Hp} {ps : List V} {p : Pr} (h : PartsAt C H ps p) : p.own = if decide (V.str p.kind = V.str "choice") = true then (if ((ps.length : Nat) : Int) > 1 then ((ps.length : Nat) : Int) else 1) else 1 := by
  cases p with
  | choice os =>
    rw [if_pos (show decide (V.str (Pr.choice os).kind = V.str "choice") = true from kCh)]
    show max 1 (os.len : Int) = _
    rw [OfsAt.len h]
    by_cases q : ((os.len : Nat) : Int) > 1
    · rw [if_pos q]
      omega
    · rw [if_neg q]
      omega
  | new n k r =>
    rw [show decide (V.str (Pr.new n k r).kind = V.str "choice") = false from kNew]
    rfl
  | cond l r y n =>
    rw [show decide (V.str (Pr.cond l r y n).kind = V.str "choice") = false from kIf]
    rfl
  | call n ops =>
    rw [show decide (V.str (Pr.call n ops).kind = V.str "choice") = false from kCall]
    rfl
theorem ok_size {f : Addr} {fd : FuncData} (F : Fun K "size_of" "size_of" (topS 25) f fd) (B : BasT K mg) (T : TerT K mg C CB) (GI : CalX P w K mg base CX0 1 "inner_processes" (spInner C)) : FnOk P w K mg base CX0 2 f fd ["kind", "parts"] (spSize C Pr.size) := by
  refine F.ok scSize (fun vs H Q E h => ?_) (fun cdv A outer s H vs Q E hr h => ?_)
  · obtain ⟨p, t, ps, rfl, _⟩ := h
    rfl
  · obtain ⟨p, t, ps, rfl, ht, hl, hP, k⟩ := h
    obtain ⟨rs, hI⟩ := hP.inn
    refine ⟨_, pss_cons (ps_set (i := 2) scSize.nd rfl (Or.inl rfl) (pe_ifExp (pt_cmpR op_eq (pv 0) pe_str (nomark _)) (pe_callB (call_max2 rfl) (by rfl) T.max (by decide +kernel) (pa_cons pe_int (pa_cons (pe_callB call_len_seq (by rfl) B.len PySem.boot_len (pa_cons (pv 1) pa_nil)) pa_nil))) pe_int))
      (pss_one (ps_ret (pe_op op_add (pv 2) (pe_callB (cr_sum rfl) (by rfl) T.sum (by decide +kernel) (pa_cons
      (pe_lc (own := [("process", 3)]) (g := gName 3) (tt := tYes) (te := tFld K (tVar 3) "size") rfl scSize.nd (pi_list (pe_cx (E := fun _ => E0) GI hr (by decide) (by rfl) at0 (pa_cons (pv 0) (pa_cons (pv 1) pa_nil)))) (blkOk_by (own := [("process", 3)]) (N := ["kind", "parts", "own", "process"]) (sc := defScope (topS 25)) (by decide +kernel))
          (fun _ _ _ _ _ => pg_name (i := 3) scSize.nd rfl (Or.inl rfl)) (fun _ _ _ _ _ => pts_nil) (fun _ _ _ _ _ => pe_fld (pv 3) rfl)) pa_nil))))), ?_⟩
    refine q_asg (v := .int p.own) (ev_if (b := decide (V.str p.kind = V.str "choice")) (et_test (ev_op (ev_var rfl) ev_c (rv_eq rfl))) (fun hb => ?_) (fun hb => ?_)) (fun H1 e1 => ?_)
    · have q := ev_max2 (σ := start ["kind", "parts", "own", "process"] [.str p.kind, .ref t]) (H := H) (ta := tC (.int 1)) (i := 1) (j := ((ps.length : Nat) : Int)) ev_c (ev_lenT (K := K) (ta := tVar 1) (ev_var rfl) (st_of ht))
      rw [own_eq hP, if_pos hb]
      exact q
    · rw [own_eq hP, if_neg (by rw [hb]; decide)]
      exact ev_c
    · have g : Ev (tOp (rI0 fun i j => .int (i + j)) (tVar 2) (tCB (rSum K) (tCons (tLc (iList K (tCallS (spInner C) (fun _ => E0) (tCons (tVar 0) (tCons (tVar 1) tNil)))) (gName 3) tYes (tFld K (tVar 3) "size") [3]) tNil)))
          ((start ["kind", "parts", "own", "process"] [.str p.kind, .ref t]).set 2 (some (.int p.own))) H1 (.int (p.own + (p.inner.map Pr.size).sum)) :=
        ev_op (ev_var rfl) (ev_sum (el_flds (fun h => fld_size h) T.cl T.nS (el_cx (ea_cons (ev_var rfl) (ea_cons (ev_var rfl) ea_nil)) (sp_inner (e1 _ _ ht) hl (hI.ex e1))) (hI.short hl) (hI.at.ex e1) (fun _ => rfl) (fun _ => rfl))) rv_I0
      rw [Pr.size_eq] at g
      exact s_ret g (fun H2 e2 => k H2 (e1.trans e2))
end
end Fs

set_option Elab.async false
set_option linter.all false
set_option maxRecDepth 100000
set_option maxHeartbeats 2000000
namespace Fs
open PySem L2 Evl FsE FsC FsR
def badInit (p : Pr) : Option Str := if p.depth ≤ 20 then (if p.size ≤ 400 then none else some "size") else some "depth"
def spInit (C CB : Addr) : Sp := fun vs H Q E => ∃ (a dx : Addr) (p : Pr) (t : Addr) (ps : List V) (H0 : Hp), vs = [.ref a, .str p.kind, .ref t] ∧ H a = some (.ins C dx []) ∧ H0 a = none ∧ Ex H0 H ∧ H0 t = some (.tup ps) ∧ ps.length ≤ 100 ∧ PartsAt C H0 ps p ∧
  (badInit p = none → ∀ H', Ex H0 H' → H' a = some (.ins C dx (pFlds p.kind t p.depth p.size)) → Q .non H') ∧ (∀ f, badInit p = some f → Bad CB f H0 E)
section
variable {P : Program} {w : World} {K : PySem.W.Frag} {mg : Str → Option Value} {base : Heap} {C CB : Addr}
theorem q_fld {σ : L2.St} {H : Hp} {ta tv : TE} {a C dx : Addr} {fs : List (Str × V)} {f : Str} {v : V} {tz : TS} {D : Ends} (hv : Ev tv σ H v) (ho : Ev ta σ H (.ref a)) (hi : H a = some (.ins C dx fs)) (cl : Cls K C) (n : NoAttr K C f) (hl : fs.length < 1000)
    (k : ∀ H1, Ex H H1 → tz D σ (upd H1 a (.ins C dx (putF f v fs)))) : tSeq (sFld K ta tv f) tz D σ H :=
  hv H (Ex.refl H) _ fun H1 e1 => ho H1 e1 _ fun H2 e2 => ⟨a, C, dx, fs, rfl, (e1.trans e2) _ _ hi, cl, n, hl, k H2 (e1.trans e2)⟩
theorem scInit : FnScope ["self", "kind", "parts"] ["self", "kind", "parts"] (defScope (inClass (topS 27) 0)) := ⟨rfl, rfl, rfl, by decide +kernel, rfl, by decide +kernel, by decide +kernel⟩
theorem putF_len (f : Str) (v : V) : ∀ fs : List (Str × V), (putF f v fs).length ≤ fs.length + 1
  | [] => by
    show 1 ≤ 0 + 1
    decide
  | (g, x) :: fs => by
    have ih := putF_len f v fs
    show (if g = f then (g, v) :: fs else (g, x) :: putF f v fs).length ≤ _
    by_cases h : g = f
    · rw [if_pos h]
      simp
    · rw [if_neg h]
      simp only [List.length_cons]
      omega
theorem ok_init {f : Addr} {fd : FuncData} {k : Nat} (F : Fun K "__init__" "Process.__init__" (inClass (topS 27) 0) f fd) (T : TerT K mg C CB) (GD : CalX P w K mg base CX0 2 "depth_of" (spSize C Pr.depth)) (GS : CalX P w K mg base CX0 2 "size_of" (spSize C Pr.size))
    (GM : CalX P w K mg base (L2.CX P w) k "demand" (spDemand CB)) (hk : 2 ≤ k) : FnOk P w K mg base (L2.CX P w) (k + 1) f fd ["self", "kind", "parts"] (spInit C CB) := by
  refine F.okX scInit (fun vs H Q E h => ?_) (fun cdv A outer s H vs Q E hr h => ?_)
  · obtain ⟨a, dx, p, t, ps, H0, rfl, _⟩ := h
    rfl
  · obtain ⟨a, dx, p, t, ps, H0, rfl, ha, hna, e0, ht, hl, hP, k1, k2⟩ := h
    refine ⟨_, pss_cons (ps_fld (pv 0) (pv 1) rfl) (pss_cons (ps_fld (pv 0) (pv 2) rfl)
      (pss_cons (ps_fld (pv 0) (pe_cx (E := fun _ => E0) GD hr hk (by rfl) at0 (pa_cons (pv 1) (pa_cons (pv 2) pa_nil))) rfl)
      (pss_cons (ps_fld (pv 0) (pe_cx (E := fun _ => E0) GS hr hk (by rfl) at0 (pa_cons (pv 1) (pa_cons (pv 2) pa_nil))) rfl)
      (pss_cons (ps_expr (pe_cx (E := WE (fun cls d _ H => E cls d H)) GM hr (Nat.le_refl _) (by rfl) (fun σ => passAt (takes_of rfl rfl rfl rfl) σ) (pa_cons (pe_cmpR op_le (pe_fld (pv 0) rfl) (C8.pe_gc (by rfl) T.depth) (nomark _)) (pa_cons pe_str pa_nil))))
      (pss_one (ps_expr (pe_cx (E := WE (fun cls d _ H => E cls d H)) GM hr (Nat.le_refl _) (by rfl) (fun σ => passAt (takes_of rfl rfl rfl rfl) σ) (pa_cons (pe_cmpR op_le (pe_fld (pv 0) rfl) (C8.pe_gc (by rfl) T.size) (nomark _)) (pa_cons pe_str pa_nil))))))))), ?_⟩
    refine q_fld (ev_var rfl) (ev_var rfl) ha T.cl T.nK (by show 0 < 1000; decide) (fun H1 e1 => ?_)
    have x1 : Ex H0 (upd H1 a (.ins C dx (putF "kind" (.str p.kind) []))) := Ex.mut (e0.trans e1) hna
    refine q_fld (ev_var rfl) (ev_var rfl) upd_same T.cl T.nP (by have := putF_len "kind" (.str p.kind) []; simp only [List.length_nil] at this; omega) (fun H2 e2 => ?_)
    have x2 : Ex H0 (upd H2 a (.ins C dx (putF "parts" (.ref t) (putF "kind" (.str p.kind) [])))) := Ex.mut (x1.trans e2) hna
    refine q_fld (ev_cx (ea_cons (ev_var rfl) (ea_cons (ev_var rfl) ea_nil)) (sp_size (x2 _ _ ht) hl (hP.ex x2))) (ev_var rfl) upd_same T.cl T.nD (by have h1 := putF_len "kind" (.str p.kind) []; have h2 := putF_len "parts" (.ref t) (putF "kind" (.str p.kind) []); simp only [List.length_nil] at h1; omega) (fun H3 e3 => ?_)
    have x3 : Ex H0 (upd H3 a (.ins C dx (putF "depth" (.int p.depth) (putF "parts" (.ref t) (putF "kind" (.str p.kind) []))))) := Ex.mut (x2.trans e3) hna
    refine q_fld (ev_cx (ea_cons (ev_var rfl) (ea_cons (ev_var rfl) ea_nil)) (sp_size (x3 _ _ ht) hl (hP.ex x3))) (ev_var rfl) upd_same T.cl T.nS (by have h1 := putF_len "kind" (.str p.kind) []; have h2 := putF_len "parts" (.ref t) (putF "kind" (.str p.kind) []); have h3 := putF_len "depth" (.int p.depth) (putF "parts" (.ref t) (putF "kind" (.str p.kind) [])); simp only [List.length_nil] at h1; omega) (fun H4 e4 => ?_)
    have x4 : Ex H0 (upd H4 a (.ins C dx (pFlds p.kind t p.depth p.size))) := Ex.mut (x3.trans e4) hna
    have h4 : (upd H4 a (.ins C dx (pFlds p.kind t p.depth p.size))) a = some (.ins C dx (pFlds p.kind t p.depth p.size)) := upd_same
    refine q_demand (by decide +kernel) (ev_op (ev_fld (ev_var rfl) h4 T.cl T.nD pf_depth) ev_c rv_I0) (fun hb H5 e5 => ?_) (fun hb => ?_)
    · have hd : p.depth ≤ 20 := by simpa using hb
      refine s_demand (by decide +kernel) (ev_op (ev_fld (ev_var rfl) (e5 _ _ h4) T.cl T.nS pf_size) ev_c rv_I0) (fun hb2 H6 e6 => ?_) (fun hb2 => ?_)
      · have hs : p.size ≤ 400 := by simpa using hb2
        exact k1 (by unfold badInit; rw [if_pos hd, if_pos hs]) H6 ((x4.trans e5).trans e6) ((e5.trans e6) _ _ h4)
      · have hs : ¬ p.size ≤ 400 := by simpa using hb2
        exact (k2 "size" (by unfold badInit; rw [if_pos hd, if_neg hs])).ex (x4.trans e5)
    · have hd : ¬ p.depth ≤ 20 := by simpa using hb
      exact (k2 "depth" (by unfold badInit; rw [if_neg hd])).ex x4
/-- what a maker gives: the process, or the field that is refused -/
def Made (C CB : Addr) (o : Option Str) (p : Pr) (H : Hp) (Q : VK) (E : XK) : Prop :=
  (o = none → ∀ a H', H a = none → Ex H H' → PrAt C H' a p → Q (.ref a) H') ∧ (∀ f, o = some f → Bad CB f H E)
theorem Made.ex {o : Option Str} {p : Pr} {H H' : Hp} {Q : VK} {E : XK} (e : Ex H H') (h : Made C CB o p H Q E) : Made C CB o p H' Q E :=
  ⟨fun ho a H2 ha e2 hp => h.1 ho a H2 (fresh_back e ha) (e.trans e2) hp, fun f hf => (h.2 f hf).ex e⟩
/-- a tuple that holds the parts of p -/
def EvP (C : Addr) (tp : TE) (σ : L2.St) (H : Hp) (p : Pr) : Prop := ∀ H1, Ex H H1 → ∀ Q : VK, (∀ t H2 ps, H1 t = none → Ex H1 H2 → H2 t = some (.tup ps) → ps.length ≤ 100 → PartsAt C H2 ps p → Q (.ref t) H2) → tp σ H1 Q
theorem EvP.of {σ : L2.St} {H : Hp} {tp : TE} {p : Pr} {ps : List V} (h : EvU tp σ H ps) (hl : ps.length ≤ 100) (hP : PartsAt C H ps p) : EvP C tp σ H p := fun H1 e Q q => h H1 e Q fun t H2 ht e2 h2 => q t H2 ps ht e2 h2 hl (hP.ex (e.trans e2))
/-- Process(kind, parts) -/
theorem ret_make {σ : L2.St} {H : Hp} {tk tp : TE} {p : Pr} {D : Ends} {E : XK} (hkd : Ev tk σ H (.str p.kind)) (hp : EvP C tp σ H p) (m : Made C CB (badInit p) p H D.rt E) :
    tRet (tMake C (spInit C CB) [] E (tCons tk (tCons tp tNil))) D σ H :=
  hkd H (Ex.refl H) _ fun H1 e1 => hp H1 e1 _ fun t H2 ps ht e2 h2 hl hP => fun x dx hx hdx hne => by
    have x0 : Ex H2 (upd (upd H2 dx (.own x)) x (.ins C dx [])) := by
      intro b o hb
      rw [upd_ne (ne_of_none hb hx), upd_ne (ne_of_none hb hdx)]
      exact hb
    refine ⟨x, dx, p, t, ps, H2, rfl, upd_same, hx, x0, h2, hl, hP, fun hb H' e' h' => ⟨rfl, ?_⟩, fun f hf => ((m.2 f hf).ex (e1.trans e2))⟩
    exact m.1 hb x H' (fresh_back (e1.trans e2) hx) ((e1.trans e2).trans e') (PrAt.mk ⟨dx, h'⟩ (e' _ _ h2) (hP.ex e'))
end
end Fs

set_option Elab.async false
set_option linter.all false
set_option maxRecDepth 100000
set_option maxHeartbeats 4000000
/-! set(xs), xs a list or a tuple of texts: how many there are tells whether they all differ. -/
namespace FsT
open PySem PySem.Spec PyProof.Rows
/-- c of the first i texts differ; all of them just when none stands twice -/
structure Few (xs : List Str) (i c : Nat) : Prop where
  le : c ≤ i
  all : c = i ↔ (xs.take i).Nodup
theorem nodup_snoc {l : List Str} {z : Str} : (l ++ [z]).Nodup ↔ l.Nodup ∧ z ∉ l := by
  rw [List.nodup_append]
  constructor
  · intro h
    exact ⟨h.1, fun hz => h.2.2 z hz z (List.mem_singleton.mpr rfl) rfl⟩
  · intro h
    refine ⟨h.1, by simp, fun a ha b hb e => ?_⟩
    rw [List.mem_singleton.mp hb] at e
    exact h.2 (e ▸ ha)
theorem Few.step {xs : List Str} {i c : Nat} {z : Str} (f : Few xs i c) (hz : xs[i]? = some z) : Few xs (i + 1) (if decide (z ∈ xs.take i) = true then c else c + 1) := by
  have e : xs.take (i + 1) = xs.take i ++ [z] := by
    rw [List.take_add_one, hz]
    rfl
  have h1 := f.le
  have h2 := f.all
  by_cases h : z ∈ xs.take i
  · rw [if_pos (decide_eq_true h)]
    refine ⟨by omega, ⟨fun q => absurd q (by omega), fun q => ?_⟩⟩
    rw [e, nodup_snoc] at q
    exact absurd h q.2
  · rw [if_neg (by rw [decide_eq_false h]; decide)]
    refine ⟨by omega, ?_⟩
    rw [e, nodup_snoc]
    constructor
    · intro q
      exact ⟨h2.mp (by omega), h⟩
    · intro q
      have := h2.mpr q.1
      omega
section
variable {P : Program} {w : World} {A : Around} {R : Result → Shared → Prop} {I S : Addr} {fp wr : List Addr} {G : Array GenState → Array GenState → Prop} {n : Nat} {Pv : Nat → Value → Prop} {St : Nat → Shared → Prop}
/-- one text after the other into the set at S -/
theorem tx_loop (W : WalksS P w A.in1 I fp wr G n Pv St) (hS : S ∉ fp) {xs : List Str} (hn : n ≤ 2000) (hv : ∀ i v, Pv i v → ∃ z t, xs[i]? = some z ∧ v = .str z t) (R0 : ∀ s' c, Moved (S :: wr) G s0 s' → Few xs n c → s'.heap.SetOf (PySem.strKind P w) S (fun k => decide (k ∈ xs.take n)) c → R (.ok (.ret .none)) s') :
    ∀ (m i : Nat) (s : Shared), i + m = n → St i s → Moved (S :: wr) G s0 s → (∃ c, Few xs i c ∧ s.heap.SetOf (PySem.strKind P w) S (fun k => decide (k ∈ xs.take i)) c) → codeAny (model P w) A (.builtin "set.update.loop" ⟨[.ref S, .ref I], []⟩) R s := by
  have out : S ∉ wr := fun z => hS (W.sub _ z)
  have up : ∀ b ∈ wr, b ∈ S :: wr := fun b => List.mem_cons_of_mem _
  have stay : ∀ {u u' : Shared} {q : Str → Bool} {c : Nat}, Moved wr G u u' → u.heap.SetOf (PySem.strKind P w) S q c → u'.heap.SetOf (PySem.strKind P w) S q c := fun mv ⟨o, es, ep, t, ho, r⟩ => ⟨o, es, ep, t, mv.heap S o out ho, r⟩
  intro m
  induction m with
  | zero =>
    intro i s him hst mv0 ⟨c, fw, so⟩
    have hi : i = n := by omega
    subst hi
    refine codeAny_builtin PyProof.Rows.F.entry_set_update_loop ?_
    rw [Around.under_plainId F.plain_set_update_loop]
    show wpAny _ _ (pyNext (.ref I) >>= fun _ => _) _ _ s
    exact wpAny_bind (W.done s _ _ hst fun s' mv => wpAny_pure (R0 s' c (Moved.trans W.gtrans mv0 (mv.mono up)) fw (stay mv so)))
  | succ m ih =>
    intro i s him hst mv0 ⟨c, fw, so⟩
    refine codeAny_builtin PyProof.Rows.F.entry_set_update_loop ?_
    rw [Around.under_plainId F.plain_set_update_loop]
    show wpAny _ _ (pyNext (.ref I) >>= fun _ => _) _ _ s
    refine wpAny_bind (W.item i s _ _ (by omega) hst fun v s1 hp hst1 mv => ?_)
    obtain ⟨z, t, hz, rfl⟩ := hv i v hp
    show wpAny _ _ (holding [Value.str z t] (setAdd S (.str z t)) >>= fun _ => _) _ _ s1
    unfold setAdd
    refine wpAny_bind (wpAny_holding (wpAny_holding (wpAny_bind ((PySem.strKind P w).pyHash (strKind_is P w z t) ?_))))
    have c0 := fw.le
    have so1 := stay mv so
    refine wpAny_setAddHashed_of (s := { s1 with toks := s1.toks + 1 }) (strKind_is P w z t) rfl so1 (by show c + 1 < 4096; omega) fun h' but so2 => ?_
    have so3 : h'.SetOf (PySem.strKind P w) S (fun k => decide (k ∈ xs.take (i + 1))) (if decide (z ∈ xs.take i) = true then c else c + 1) := SetOf_congr so2 (fun k => by
      rw [List.take_add_one, hz]
      simp [List.mem_append]) rfl
    refine wpAny_pure ⟨plainId_quiet F.plain_set_update_loop _, ih (i + 1) _ (by omega) (W.frame (i + 1) s1 h' _ hst1 (Nat.le_succ _) fun b hb o ho => ?_) ?_ ⟨_, fw.step hz, so3⟩⟩
    · exact (but.2 b fun z => hS (z ▸ hb)).trans ho
    · refine Moved.trans W.gtrans mv0 ((mv.mono up).then_heap (Nat.le_succ _) fun b o hb ho => ?_)
      exact (but.2 b fun z => hb (z ▸ List.mem_cons_self ..)).trans ho
end
section
variable {P : Program} {w : World} {A : Around} {E : Value → Shared → Prop} {s : Shared}
/-- what set() reads: a list, a tuple -/
structure Feed (P : Program) (w : World) (T iT : String) (items : Array Value) (nl : Nat) (od : Option Addr) (sl : Array (Option Value)) (l : Addr) : Prop where
  s1 : isSubtype (Value.type T) (Value.type "set") = pure false
  s2 : isSubtype (Value.type T) (Value.type "frozenset") = pure false
  nd : (Value.type T == Value.type "dict") = false
  it : ∀ (A' : Around) (E' : Value → Shared → Prop) (u : Shared) (Q' : Value → Shared → Prop), u.heap.get? l = some { cls := .type T, dict := od, data := .seq items nl, slots := sl } →
    Q' (.ref u.heap.objs.size) { u with heap := u.heap.push { cls := .type iT, data := .fields #[.ref l, .int 0 0] } } → wpAny (model P w) A' (pyIter (.ref l)) Q' E' u
  wk : ∀ (A' : Around) (I : Addr), A'.handled = none → l ≠ I → ∃ St : Nat → Shared → Prop, WalksS P w A' I [I, l] [I] (fun a b => b = a) items.size (fun i v => items[i]? = some v) St ∧
    ∀ u : Shared, u.heap.get? I = some { cls := .type iT, data := .fields #[.ref l, .int 0 0] } → u.heap.get? l = some { cls := .type T, dict := od, data := .seq items nl, slots := sl } → St 0 u
theorem feed_list {items : Array Value} {nl : Nat} {od : Option Addr} {sl : Array (Option Value)} {l : Addr} : Feed P w "list" "list_iterator" items nl od sl l :=
  ⟨PySem.F.sub_list_set, PySem.F.sub_list_frozenset, by decide, fun _ _ _ _ h q => wpAny_pyIter_list ⟨_, h, rfl, nl, rfl⟩ q, fun A' I ha ne => ⟨_, (Walks.list ha I l ne items).toS, fun u h1 h2 => ⟨⟨_, h1, rfl, rfl⟩, ⟨_, h2, rfl, nl, rfl⟩⟩⟩⟩
theorem feed_tup {items : Array Value} {nl : Nat} {od : Option Addr} {sl : Array (Option Value)} {l : Addr} : Feed P w "tuple" "tuple_iterator" items nl od sl l :=
  ⟨PySem.F.sub_tuple_set, PySem.F.sub_tuple_frozenset, by decide, fun _ _ _ _ h q => wpAny_pyIter_tuple ⟨_, h, rfl, nl, rfl⟩ q, fun A' I ha ne => ⟨_, (Walks.tuple ha I l ne items).toS, fun u h1 h2 => ⟨⟨_, h1, rfl, rfl⟩, ⟨_, h2, rfl, nl, rfl⟩⟩⟩⟩
/-- set(l) -/
theorem tx_call {T iT : String} {items : Array Value} {nl : Nat} {od : Option Addr} {sl : Array (Option Value)} {l : Addr} {xs : List Str} {Q : Value → Shared → Prop} (D : Feed P w T iT items nl od sl l) (ha : A.handled = none)
    (ho : s.heap.get? l = some { cls := .type T, dict := od, data := .seq items nl, slots := sl }) (hx : StrsAre items.toList xs) (hl : xs.length ≤ 2000)
    (hq : ∀ h' tk c, Few xs xs.length c → h'.SetOf (PySem.strKind P w) s.heap.objs.size (fun k => decide (k ∈ xs)) c → (∀ b o, s.heap.get? b = some o → h'.get? b = some o) → Q (.ref s.heap.objs.size) { s with heap := h', toks := tk }) :
    wpAny (model P w) A (call (.type "set") [.ref l]) Q E s := by
  have cs := PySem.F.called_set
  obtain ⟨cc, rest, mro0⟩ := cs.mro
  have made0 := cs.made
  have sub0 := cs.sub
  refine wpAny_call (codeAny_of_tree ?_)
  show wpAny _ _ (callAny (.type "set") { pos := [.ref l] }) _ _ _
  refine wpAny_pure ⟨Code.quiet_builtin _ (by decide +kernel), codeAny_builtin PySem.F.entry_type_call ?_⟩
  rw [Around.under_plain (weight_type_call_type "set" [Value.ref l] []) rfl]
  have nt0 := cs.notType
  have cr0 := cs.canCreate
  have tc0 := PySem.F.typeCall_set_1 (Value.ref l)
  repeat (any_goals (first | assumption | wp_step))
  refine codeAny_mono (code_set_new_1 (Value.ref l) (E := E) (Q₁ := fun v u => ∃ b : Bool, v = .ref s.heap.objs.size ∧ u = { s with heap := s.heap.push { cls := .type "set", data := .set #[] 0 (.fresh 0 0 b) } }) (fun b => ⟨b, rfl, rfl⟩)) (fun r u hr => ?_)
  match r, hr with
  | .error _, hr => exact hr
  | .ok .next, hr => exact hr.elim
  | .ok .brk, hr => exact hr.elim
  | .ok .cont, hr => exact hr.elim
  | .ok (.ret v), hr =>
    obtain ⟨b, rfl, rfl⟩ := hr
    have at0 : (s.heap.push { cls := .type "set", data := .set #[] 0 (.fresh 0 0 b) }).get? s.heap.objs.size = some { cls := .type "set", data := .set #[] 0 (.fresh 0 0 b) } := Heap.get?_push_size _ rfl
    have ty0 : Shared.TypeIs { s with heap := s.heap.push { cls := .type "set", data := .set #[] 0 (.fresh 0 0 b) } } (.ref s.heap.objs.size) "set" := ⟨_, at0, rfl⟩
    have look0 := cs.init.lookup
    have bind0 := cs.init.bind (.ref s.heap.objs.size)
    repeat (any_goals (first | assumption | wp_step))
    refine codeAny_mono (codeAny_call_builtin (R := wants (fun v u => v = .none ∧ ∃ h' tk c, u = { s with heap := h', toks := tk } ∧ Few xs xs.length c ∧ h'.SetOf (PySem.strKind P w) s.heap.objs.size (fun k => decide (k ∈ xs)) c ∧ ∀ b o, s.heap.get? b = some o → h'.get? b = some o) E)
      cs.init.plain PySem.F.entry_set_init (check_set_init_1 ty0 ?_)) (fun r2 u2 hr2 => ?_)
    · have ho1 : (s.heap.push { cls := .type "set", data := .set #[] 0 (.fresh 0 0 b) }).get? l = some { cls := .type T, dict := od, data := .seq items nl, slots := sl } := Heap.get?_push_of_some _ ho
      have d1 := D.s1
      have d2 := D.s2
      have d3 := D.nd
      unfold Builtin.«set.__init__» noKeywords Builtin.Frozenset.updateFrom
      generalize hI : pyIter = IT
      wp_walk
      subst hI
      have nx : items.size = xs.length := by
        have e := StrsAre.len_eq hx
        rw [Array.length_toList] at e
        exact e
      have ls : l < s.heap.objs.size := Heap.lt_size ho
      have sz1 : (s.heap.push { cls := .type "set", data := .set #[] 0 (.fresh 0 0 b) }).objs.size = s.heap.objs.size + 1 := Heap.size_push ..
      have n1 : l ≠ s.heap.objs.size + 1 := Nat.ne_of_lt (Nat.lt_succ_of_lt ls)
      have n2 : s.heap.objs.size ≠ s.heap.objs.size + 1 := Nat.ne_of_lt (Nat.lt_succ_self _)
      have n3 : s.heap.objs.size ≠ l := (Nat.ne_of_lt ls).symm
      refine D.it _ _ _ _ ho1 (wpAny_bind (wpAny_runValue ?_))
      have at1 : ((s.heap.push { cls := .type "set", data := .set #[] 0 (.fresh 0 0 b) }).push { cls := .type iT, data := .fields #[.ref l, .int 0 0] }).get? s.heap.objs.size = some { cls := .type "set", data := .set #[] 0 (.fresh 0 0 b) } := Heap.get?_push_of_some _ at0
      obtain ⟨St, wk, st0⟩ := D.wk A.in1.in1.in1 (s.heap.push { cls := .type "set", data := .set #[] 0 (.fresh 0 0 b) }).objs.size (by simp [ha]) (by rw [sz1]; exact n1)
      refine tx_loop (s0 := { s with heap := (s.heap.push { cls := .type "set", data := .set #[] 0 (.fresh 0 0 b) }).push { cls := .type iT, data := .fields #[.ref l, .int 0 0] } }) wk (by
          simp only [List.mem_cons, List.not_mem_nil, or_false, not_or]
          exact ⟨by rw [sz1]; exact n2, n3⟩) (xs := xs) (by omega) (fun i v hv => ?_) (fun u c mv fw so => ?_) items.size 0 _ (Nat.zero_add _) (st0 _ (Heap.get?_push_size _ rfl) (Heap.get?_push_of_some _ ho1)) ⟨fun _ _ _ e => e, rfl, rfl, rfl, Nat.le_refl _⟩
        ⟨0, ⟨Nat.le_refl _, by simp⟩, SetOf_congr ((setObjOf_fresh (knd := PySem.strKind P w) b).setOf at1 (by show 0 < 4096; decide)) (fun k => by simp) rfl⟩
      · obtain ⟨t, e⟩ := SS.strs_at hx i v (by rw [Array.getElem?_toList]; exact hv)
        have hi : i < xs.length := by
          rw [← nx]
          exact (Array.getElem?_eq_some_iff.mp hv).1
        exact ⟨xs[i], t, List.getElem?_eq_getElem hi, by rw [e, List.getD_eq_getElem?_getD, List.getElem?_eq_getElem hi]; rfl⟩
      · obtain ⟨h2, g2, d2, t2, o2⟩ := u
        obtain rfl : g2 = s.gens := mv.gens
        obtain rfl : d2 = s.drawn := mv.drawn
        obtain rfl : o2 = s.os := mv.os
        rw [nx] at fw so
        rw [List.take_length] at so
        refine wpAny_pure ?_
        show wpAny _ _ (ret Value.none) _ _ _
        refine wpAny_pure ⟨rfl, h2, t2, c, rfl, fw, so, fun d o e => ?_⟩
        have dl : d < s.heap.objs.size := Heap.lt_size e
        exact mv.heap d o (by
          simp only [List.mem_cons, List.not_mem_nil, or_false, not_or]
          exact ⟨Nat.ne_of_lt dl, by rw [sz1]; exact Nat.ne_of_lt (Nat.lt_succ_of_lt dl)⟩) (Heap.get?_push_of_some _ (Heap.get?_push_of_some _ e))
    · match r2, hr2 with
      | .error _, hr2 => exact hr2
      | .ok .next, hr2 => exact hr2.elim
      | .ok .brk, hr2 => exact hr2.elim
      | .ok .cont, hr2 => exact hr2.elim
      | .ok (.ret v), hr2 =>
        obtain ⟨rfl, h', tk, c, rfl, fw, so, kp⟩ := hr2
        repeat (any_goals (first | assumption | wp_step))
        exact hq h' tk c fw so kp
end
end FsT

set_option Elab.async false
set_option linter.all false
set_option maxRecDepth 100000
set_option maxHeartbeats 2000000
namespace FsR
open PySem PySem.Spec PyProof.Rows L2 FsT
/-- len(set(xs)), xs a list or a tuple of texts -/
def tLenTx (K : PySem.W.Frag) (ta : TE) : TE := fun σ H Q => ta σ H fun x H1 => ∃ (l : Addr) (xs : List Str), x = .ref l ∧ (SqL K H1 l (xs.map V.str) ∨ SqT K H1 l (xs.map V.str)) ∧ xs.length ≤ 2000 ∧ ∀ c, Few xs xs.length c → Q (.int (c : Nat)) H1
theorem pe_lenTx {X : Cx} {a : Expr} {ta : TE} {p p2 q pos : Pos} (hc : X.calm = true) (hg : Gl X "len") (hm : X.mg "len" = none) (hg2 : Gl X "set") (hm2 : X.mg "set" = none) (ha : PE X a ta)
    (na : starEach [a] X.env = (false, eval a X.env) :: starEach [] X.env := by rfl) : PE X (.Call (.Name "len" p) [.Call (.Name "set" p2) [a] [] q] [] pos) (tLenTx X.K ta) := by
  refine ⟨fun pins s σ H Q I h => Call_ (ld_blt I hg hm PySem.boot_len (callWith_builtin1 (args_cons (Call_ (ld_blt I hg2 hm2 boot_set (callWith_type1 (args_cons (thn (ha.run pins s σ H _ I h) fun v u ⟨x, H1, J, rx, l, xs, ex, hq, hl, k⟩ => args_nil ?_) na) na rfl))) rfl) rfl rfl))⟩
  subst ex
  obtain rfl : v = Value.ref l := rx
  have fin : ∀ (h' : Heap) (tk c : Nat), Few xs xs.length c → h'.SetOf (PySem.strKind X.prog X.w) u.heap.objs.size (fun k => decide (k ∈ xs)) c → (∀ b o, u.heap.get? b = some o → h'.get? b = some o) →
      wpAny (model X.prog X.w) X.A (spliced (backTo pos (starEach [] X.env))) (fun vs u2 => wpAny (model X.prog X.w) X.A (call (.builtin "len") (Value.ref u.heap.objs.size :: vs)) (EP X pins σ Q) X.xe u2) X.xe { u with heap := h', toks := tk } := fun h' tk c fw so kp => by
    refine args_nil ?_
    obtain ⟨o, es, ep, t, ho, hex, hd, _, _, hsm, hf, hn⟩ := so
    have J2 : Inv X pins σ H1 { u with heap := h', toks := tk } := J.kept kp
    have c0 := fw.le
    refine call_len_set ho hex hd hf (by rw [hn]; omega) ⟨.int (c : Nat), H1, J2.tok _, ⟨_, by rw [hn]⟩, k c fw⟩
  rcases hq with hq | hq
  · obtain ⟨its, r, pl, hz⟩ := J.list hq
    obtain ⟨⟨oc, od, dt, sl⟩, ho, e1, n, e2⟩ := pl.isList
    dsimp only at e1 e2
    subst e1 e2
    exact tx_call feed_list (J.ok.hd hc) ho (by simpa using strsAre_of r) hl fin
  · obtain ⟨its, r, ⟨⟨oc, od, dt, sl⟩, ho, e1, n, e2⟩, hz⟩ := J.tuple hq
    dsimp only at e1 e2
    subst e1 e2
    exact tx_call feed_tup (J.ok.hd hc) ho (by simpa using strsAre_of r) hl fin
end FsR

set_option Elab.async false
set_option linter.all false
set_option maxRecDepth 100000
set_option maxHeartbeats 2000000
namespace Fs
open PySem L2 Evl FsE FsC FsR FsT
def namesS (ns : List Str) : Bool := (ns.map nameS).all id && decide ns.Nodup
/-- names, in a list or a tuple -/
def NmsAt (H : Hp) (u : Addr) (ns : List Str) : Prop := H u = some (.lst (ns.map V.str)) ∨ H u = some (.tup (ns.map V.str))
theorem NmsAt.ex {H H' : Hp} {u : Addr} {ns : List Str} (e : Ex H H') (h : NmsAt H u ns) : NmsAt H' u ns := h.imp (e _ _) (e _ _)
theorem NmsAt.sq {K : PySem.W.Frag} {H : Hp} {u : Addr} {ns : List Str} (h : NmsAt H u ns) : SqL K H u (ns.map V.str) ∨ SqT K H u (ns.map V.str) := h.imp sq_of st_of
def spNames : Sp := fun vs H Q _ => ∃ (u : Addr) (ns : List Str), vs = [.ref u] ∧ NmsAt H u ns ∧ ns.length ≤ 90 ∧ (∀ z ∈ ns, z.length ≤ 40000) ∧ RetV (.bl (namesS ns)) H Q
section
variable {P : Program} {w : World} {K : PySem.W.Frag} {mg : Str → Option Value} {base : Heap} {C CB : Addr}
/-- len(set(xs)) == n, n the length of xs -/
theorem ev_differ {σ : L2.St} {H : Hp} {ta tb : TE} {u : Addr} {ns : List Str} (h : Ev ta σ H (.ref u)) (hu : NmsAt H u ns) (hl : ns.length ≤ 90) (hb : Ev tb σ H (.int ((ns.length : Nat) : Int))) : Ev (tOp rEq (tLenTx K ta) tb) σ H (.bl (decide ns.Nodup)) := fun H1 e Q q =>
  h H1 e _ fun H2 e2 => ⟨u, ns, rfl, (hu.ex (e.trans e2)).sq, by omega, fun c fw => hb H2 (e.trans e2) _ fun H3 e3 => rv_eq (x := .int (c : Nat)) (y := .int ((ns.length : Nat) : Int)) rfl H3 (Ex.refl H3) _ fun H4 e4 => by
    have a := fw.all
    rw [List.take_length] at a
    have b : decide (V.int ((c : Nat) : Int) = V.int ((ns.length : Nat) : Int)) = decide ns.Nodup := by
      by_cases hn : ns.Nodup
      · rw [decide_eq_true hn, a.mpr hn]
        exact decide_eq_true rfl
      · rw [decide_eq_false hn]
        refine decide_eq_false fun z => hn (a.mp ?_)
        injection z with z
        omega
    rw [b]
    exact q H4 ((e2.trans e3).trans e4)⟩
theorem nms_at {ns : List Str} {i : Nat} {x y : V} (hz : ∀ z ∈ ns, z.length ≤ 40000) (hx : (ns.map V.str)[i]? = some x) (hy : ((ns.map nameS).map V.bl)[i]? = some y) : OpV x ∧ y = .bl (nameV x) := by
  rw [List.map_map, List.getElem?_map] at hy
  rw [List.getElem?_map] at hx
  cases hq : ns[i]? with
  | none =>
    rw [hq] at hx
    cases hx
  | some z =>
    rw [hq] at hx hy
    have ex : V.str z = x := Option.some.inj hx
    have ey : V.bl (nameS z) = y := Option.some.inj hy
    subst ex
    exact ⟨hz z (List.mem_of_getElem? hq), ey.symm⟩
theorem scNames : FnScope ["texts", "text"] ["texts"] (defScope (topS 9)) := ⟨rfl, rfl, rfl, by decide +kernel, rfl, by decide +kernel, by decide +kernel⟩
theorem ok_are_names {f : Addr} {fd : FuncData} (F : Fun K "are_names" "are_names" (topS 9) f fd) (B : BasT K mg) (hset : mg "set" = none) (GN : CalX P w K mg base CX0 1 "is_name" (spPred nameV)) : FnOk P w K mg base CX0 2 f fd ["texts"] spNames := by
  refine F.ok scNames (fun vs H Q E h => ?_) (fun cdv A outer s H vs Q E hr h => ?_)
  · obtain ⟨u, ns, rfl, _⟩ := h
    rfl
  · obtain ⟨u, ns, rfl, hu, hl, hz, q⟩ := h
    have hlen : (ns.map V.str).length ≤ 40000 := by rw [List.length_map]; omega
    have hlen2 : ((ns.map nameS).map V.bl).length = (ns.map V.str).length := by simp
    have hbs : (((ns.map V.str).length : Nat) : Int) = ((ns.length : Nat) : Int) := by rw [List.length_map]
    have each : ∀ {σ : L2.St} {H2 : Hp} {i : Nat} {x y : V}, (ns.map V.str)[i]? = some x → ((ns.map nameS).map V.bl)[i]? = some y → σ[1]? = some (some x) → Ev (tCallS (spPred nameV) (fun _ => E0) (tCons (tVar 1) tNil)) σ H2 y := fun hx hy hv => by
      obtain ⟨a1, a2⟩ := nms_at hz hx hy
      rw [a2]
      exact ev_cx (ea_cons (ev_var hv) ea_nil) (sp_pred a1)
    rcases id hu with hu1 | hu1
    · refine ⟨_, pss_one (ps_ret (pe_and (pe_callB (cr_all rfl) (by rfl) B.all (by decide +kernel) (pa_cons
          (pe_lc (own := [("text", 1)]) (g := gName 1) (tt := tYes) (te := tCallS (spPred nameV) (fun _ => E0) (tCons (tVar 1) tNil)) rfl scNames.nd (pi_list (pv 0)) (blkOk_by (own := [("text", 1)]) (N := ["texts", "text"]) (sc := defScope (topS 9)) (by decide +kernel))
            (fun _ _ _ _ _ => pg_name (i := 1) scNames.nd rfl (Or.inl rfl)) (fun _ _ _ _ _ => pts_nil) (fun _ _ _ _ _ => pe_cx (E := fun _ => E0) GN hr (by decide) (by rfl) at0 (pa_cons (pv 1) pa_nil))) pa_nil))
          (pe_one (pe_cmpR op_eq (pe_lenTx rfl (by rfl) B.len (by rfl) hset (pv 0)) (pe_callB call_len_seq (by rfl) B.len PySem.boot_len (pa_cons (pv 0) pa_nil)) (nomark _))))), ?_⟩
      refine s_ret (v := .bl (namesS ns)) (ev_andV (ev_all (bs := ns.map nameS) (el_lcLy (ev_var rfl) (sq_of hu1) hlen (fun _ => rfl) hlen2 (fun i x y H2 e2 hx hy => each hx hy rfl)))
        (fun _ => ev_differ (ev_var rfl) hu hl (ev_is (ev_cb (ea_cons (ev_var rfl) ea_nil) (fun H2 e2 Q' q' => ⟨u, _, rfl, .inl (sq_of (e2 _ _ hu1)), q' H2 (Ex.refl H2)⟩)) (by rw [hbs])))) q
    · refine ⟨_, pss_one (ps_ret (pe_and (pe_callB (cr_all rfl) (by rfl) B.all (by decide +kernel) (pa_cons
          (pe_lc (own := [("text", 1)]) (g := gName 1) (tt := tYes) (te := tCallS (spPred nameV) (fun _ => E0) (tCons (tVar 1) tNil)) rfl scNames.nd (pi_tup (pv 0)) (blkOk_by (own := [("text", 1)]) (N := ["texts", "text"]) (sc := defScope (topS 9)) (by decide +kernel))
            (fun _ _ _ _ _ => pg_name (i := 1) scNames.nd rfl (Or.inl rfl)) (fun _ _ _ _ _ => pts_nil) (fun _ _ _ _ _ => pe_cx (E := fun _ => E0) GN hr (by decide) (by rfl) at0 (pa_cons (pv 1) pa_nil))) pa_nil))
          (pe_one (pe_cmpR op_eq (pe_lenTx rfl (by rfl) B.len (by rfl) hset (pv 0)) (pe_callB call_len_seq (by rfl) B.len PySem.boot_len (pa_cons (pv 0) pa_nil)) (nomark _))))), ?_⟩
      refine s_ret (v := .bl (namesS ns)) (ev_andV (ev_all (bs := ns.map nameS) (el_lcTy (ev_var rfl) (st_of hu1) hlen (fun _ => rfl) hlen2 (fun i x y H2 e2 hx hy => each hx hy rfl)))
        (fun _ => ev_differ (ev_var rfl) hu hl (ev_is (ev_cb (ea_cons (ev_var rfl) ea_nil) (fun H2 e2 Q' q' => ⟨u, _, rfl, .inr (st_of (e2 _ _ hu1)), q' H2 (Ex.refl H2)⟩)) (by rw [hbs])))) q
end
end Fs

set_option Elab.async false
set_option linter.all false
set_option maxRecDepth 100000
set_option maxHeartbeats 2000000
namespace Fs
open PySem L2 Evl FsE FsC FsR FsT
def Opd.ok : Opd → Prop
  | .int _ => True
  | .nm z => z.length ≤ 40000
theorem Opd.opv {o : Opd} (h : o.ok) : OpV o.v := by
  cases o with
  | int i => exact True.intro
  | nm z => exact h
/-! what is refused -/
def badNew (z : Str) (k : Int) (r : Pr) : Option Str := if nameS z = true then (if seatsV (.int k) = true then badInit (.new z k r) else some "seats") else some "name"
def badWhen (l r : Opd) (y n : Pr) : Option Str := if operandV l.v = true then (if operandV r.v = true then badInit (.cond l r y n) else some "right") else some "left"
def opsOk (ops : List Opd) : Bool := decide (((ops.length : Nat) : Int) ≤ 4) && (ops.map fun o => operandV o.v).all id
def badCall (z : Str) (ops : List Opd) : Option Str := if nameS z = true then (if opsOk ops = true then badInit (.call z ops) else some "operands") else some "name"
/-! the promises -/
def spStop (C CB : Addr) : Sp := fun vs H Q E => vs = [] ∧ Made C CB none (.choice .nil) H Q E
def spNew (C CB : Addr) : Sp := fun vs H Q E => ∃ (z : Str) (k : Int) (b : Addr) (r : Pr), vs = [.str z, .int k, .ref b] ∧ z.length ≤ 40000 ∧ PrAt C H b r ∧ Made C CB (badNew z k r) (.new z k r) H Q E
def spWhen (C CB : Addr) : Sp := fun vs H Q E => ∃ (l r : Opd) (b c : Addr) (y n : Pr), vs = [l.v, r.v, .ref b, .ref c] ∧ l.ok ∧ r.ok ∧ PrAt C H b y ∧ PrAt C H c n ∧ Made C CB (badWhen l r y n) (.cond l r y n) H Q E
/-- a list or a tuple of the operands -/
def OpsAt (K : PySem.W.Frag) (H : Hp) (u : Addr) (ops : List Opd) : Prop := H u = some (.lst (ops.map Opd.v)) ∨ H u = some (.tup (ops.map Opd.v))
def spCall (K : PySem.W.Frag) (C CB : Addr) : Sp := fun vs H Q E => ∃ (z : Str) (u : Addr) (ops : List Opd), vs = [.str z, .ref u] ∧ z.length ≤ 40000 ∧ OpsAt K H u ops ∧ ops.length ≤ 90 ∧ (∀ o ∈ ops, o.ok) ∧ Made C CB (badCall z ops) (.call z ops) H Q E
/-- what the makers ask -/
structure MakT (P : Program) (w : World) (K : PySem.W.Frag) (mg : Str → Option Value) (base : Heap) (C CB : Addr) (k : Nat) : Prop where
  make : MakX P w K mg base (L2.CX P w) k "Process" C (spInit C CB)
  dem : CalX P w K mg base (L2.CX P w) k "demand" (spDemand CB)
  name : CalX P w K mg base CX0 1 "is_name" (spPred nameV)
  operand : CalX P w K mg base CX0 3 "is_operand" (spPred operandV)
  mops : GC mg "MOST_OPERANDS" (.int 4)
  tuple : mg "tuple" = none
  len : mg "len" = none
  all : mg "all" = none
  hk : 3 ≤ k
section
variable {P : Program} {w : World} {K : PySem.W.Frag} {mg : Str → Option Value} {base : Heap} {C CB : Addr} {k : Nat}
theorem Made.bad {o : Option Str} {f : Str} {p : Pr} {H : Hp} {Q : VK} {E : XK} (m : Made C CB o p H Q E) (h : o = some f) : Bad CB f H E := m.2 f h
theorem scCall : FnScope ["name", "operands", "allowed", "part"] ["name", "operands"] (defScope (inClass (topS 27) 5)) := ⟨rfl, rfl, rfl, by decide +kernel, rfl, by decide +kernel, by decide +kernel⟩
theorem evp_call {σ : L2.St} {H : Hp} {z : Str} {u : Addr} {ops : List Opd} (h0 : σ[0]? = some (some (.str z))) (h1 : σ[1]? = some (some (.ref u))) (hu : OpsAt K H u ops) :
    EvP C (tTup (tCons (tVar 0) (tCons (tCB (fun xs H Q => ∃ p ys, xs = [V.ref p] ∧ ((SqL K H p ys ∧ ∀ l, H l = none → Q (.ref l) (upd H l (.tup ys))) ∨ SqT K H p ys ∧ Q (.ref p) H)) (tCons (tVar 1) tNil)) tNil))) σ H (.call z ops) := fun H1 e Q q => by
  rcases hu with hu | hu
  · refine ⟨_, h0, _, h1, u, ops.map Opd.v, rfl, .inl ⟨sq_of (e _ _ hu), fun l hl => ⟨(by show 2 ≤ sizeLine; decide), fun p hp => ?_⟩⟩⟩
    have hpl : l ≠ p := fun z => by rw [← z, upd_same] at hp; cases hp
    refine q p _ [.str z, .ref l] (fresh_back (Ex.new hl) hp) ((Ex.new hl).trans (Ex.new hp)) upd_same (by show 2 ≤ 100; decide) ⟨l, rfl, ?_⟩
    rw [upd_ne hpl]
    exact upd_same
  · refine ⟨_, h0, _, h1, u, ops.map Opd.v, rfl, .inr ⟨st_of (e _ _ hu), (by show 2 ≤ sizeLine; decide), fun p hp => ?_⟩⟩
    exact q p _ [.str z, .ref u] hp (Ex.new hp) upd_same (by show 2 ≤ 100; decide) ⟨u, rfl, Ex.new hp _ _ (e _ _ hu)⟩
theorem OpsAt.ex {H H' : Hp} {u : Addr} {ops : List Opd} (e : Ex H H') (h : OpsAt K H u ops) : OpsAt K H' u ops := h.imp (e _ _) (e _ _)
theorem ops_at {H : Hp} {ops : List Opd} (ho : ∀ o ∈ ops, o.ok) {i : Nat} {x y : V} (hx : (ops.map Opd.v)[i]? = some x) (hy : ((ops.map fun o => operandV o.v).map V.bl)[i]? = some y) : OpV x ∧ y = .bl (operandV x) := by
  rw [List.map_map, List.getElem?_map] at hy
  rw [List.getElem?_map] at hx
  cases hq : ops[i]? with
  | none =>
    rw [hq] at hx
    cases hx
  | some o =>
    rw [hq] at hx hy
    have ex : o.v = x := Option.some.inj hx
    have ey : V.bl (operandV o.v) = y := Option.some.inj hy
    subst ex
    exact ⟨Opd.opv (ho o (List.mem_of_getElem? hq)), ey.symm⟩
theorem ok_call {f : Addr} {fd : FuncData} (F : Fun K "call" "Process.call" (inClass (topS 27) 5) f fd) (M : MakT P w K mg base C CB k) : FnOk P w K mg base (L2.CX P w) (k + 1 + 1) f fd ["name", "operands"] (spCall K C CB) := by
  refine F.okX scCall (fun vs H Q E h => ?_) (fun cdv A outer s H vs Q E hr h => ?_)
  · obtain ⟨z, u, ops, rfl, _⟩ := h
    rfl
  · obtain ⟨z, u, ops, rfl, hz, hu, hl, ho, m⟩ := h
    have h3 := M.hk
    have bad1 : nameV (.str z) = false → Bad CB "name" H E := fun h1 => m.bad (by unfold badCall; rw [if_neg (by rw [show nameS z = false from h1]; decide)])
    have bad2 : nameV (.str z) = true → ∀ H1, Ex H H1 → opsOk ops = false → Bad CB "operands" H1 E := fun h1 H1 e1 h2 => (m.ex e1).bad (by unfold badCall; rw [if_pos (show nameS z = true from h1), if_neg (by rw [h2]; decide)])
    have good : nameV (.str z) = true → opsOk ops = true → ∀ H2, Ex H H2 → Made C CB (badInit (.call z ops)) (.call z ops) H2 Q E := fun h1 h2 H2 e2 => by
      have e : badCall z ops = badInit (.call z ops) := by unfold badCall; rw [if_pos (show nameS z = true from h1), if_pos h2]
      rw [e] at m
      exact m.ex e2
    have hlen : (ops.map Opd.v).length ≤ 40000 := by rw [List.length_map]; omega
    have hlen2 : ((ops.map fun o => operandV o.v).map V.bl).length = (ops.map Opd.v).length := by simp
    have hbs : ((((ops.map Opd.v).length : Nat) : Int)) = ((ops.length : Nat) : Int) := by rw [List.length_map]
    rcases hu with hu | hu
    · refine ⟨_, pss_cons (ps_expr (pe_cx (E := WE (fun cls d _ H => E cls d H)) M.dem hr (Nat.le_succ _) (by rfl) (fun σ => passAt (takes_of rfl rfl rfl rfl) σ) (pa_cons (pe_cx (E := fun _ => E0) M.name hr (by omega) (by rfl) at0 (pa_cons (pv 0) pa_nil)) (pa_cons pe_str pa_nil))))
        (pss_cons (ps_set (i := 2) scCall.nd rfl (Or.inl rfl) (pe_and (pe_cmpR op_le (pe_callB call_len_seq (by rfl) M.len PySem.boot_len (pa_cons (pv 1) pa_nil)) (C8.pe_gc (by rfl) M.mops) (nomark _)) (pe_one (pe_callB (cr_all rfl) (by rfl) M.all (by decide +kernel) (pa_cons
          (pe_lc (own := [("part", 3)]) (g := gName 3) (tt := tYes) (te := tCallS (spPred operandV) (fun _ => E0) (tCons (tVar 3) tNil)) rfl scCall.nd (pi_list (pv 1)) (blkOk_by (own := [("part", 3)]) (N := ["name", "operands", "allowed", "part"]) (sc := defScope (inClass (topS 27) 5)) (by decide +kernel))
            (fun _ _ _ _ _ => pg_name (i := 3) scCall.nd rfl (Or.inl rfl)) (fun _ _ _ _ _ => pts_nil) (fun _ _ _ _ _ => pe_cx (E := fun _ => E0) M.operand hr (by omega) (by rfl) at0 (pa_cons (pv 3) pa_nil))) pa_nil)))))
        (pss_cons (ps_expr (pe_cx (E := WE (fun cls d _ H => E cls d H)) M.dem hr (Nat.le_succ _) (by rfl) (fun σ => passAt (takes_of rfl rfl rfl rfl) σ) (pa_cons (pv 2) (pa_cons pe_str pa_nil))))
        (pss_one (ps_ret (pe_mx M.make hr (Nat.le_refl _) (by rfl) (passes_call (W := fun cls d _ H => E cls d H) (takes_of rfl rfl rfl rfl) (fun _ _ _ _ h => h)) (pa_cons pe_str (pa_cons (pe_tup (pa_cons (pv 0) (pa_cons (pe_callTy call_tuple_of (by rfl) M.tuple (by decide +kernel) (pa_cons (pv 1) pa_nil)) pa_nil))) pa_nil))))))), ?_⟩
      refine q_demand (by decide +kernel) (ev_cx (ea_cons (ev_var rfl) ea_nil) (sp_pred (f := nameV) (v := .str z) hz)) (fun h1 H1 e1 => ?_) bad1
      have hu1 := e1 _ _ hu
      refine q_asg (v := .bl (opsOk ops)) (ev_andV (ev_is (ev_op (ev_is (ev_cb (ea_cons (ev_var rfl) ea_nil) (fun H2 e2 Q' q' => ⟨u, _, rfl, .inl (sq_of (e2 _ _ hu1)), q' H2 (Ex.refl H2)⟩)) (by rw [hbs])) ev_c rv_I0) rfl) (fun _ => ev_all (bs := ops.map fun o => operandV o.v)
        (el_lcLy (ev_var rfl) (sq_of hu1) hlen (fun _ => rfl) hlen2 (fun i x y H2 e2 hx hy => ?_)))) (fun H2 e2 => ?_)
      · obtain ⟨a1, a2⟩ := ops_at (H := H) ho hx hy
        rw [a2]
        exact ev_cx (ea_cons (ev_var rfl) ea_nil) (sp_pred a1)
      · refine q_demand (by decide +kernel) (ev_var rfl) (fun h2 H3 e3 => ?_) (bad2 h1 H2 (e1.trans e2))
        exact ret_make (p := .call z ops) ev_c (evp_call rfl rfl (OpsAt.ex ((e1.trans e2).trans e3) (.inl hu))) (good h1 h2 H3 ((e1.trans e2).trans e3))
    · refine ⟨_, pss_cons (ps_expr (pe_cx (E := WE (fun cls d _ H => E cls d H)) M.dem hr (Nat.le_succ _) (by rfl) (fun σ => passAt (takes_of rfl rfl rfl rfl) σ) (pa_cons (pe_cx (E := fun _ => E0) M.name hr (by omega) (by rfl) at0 (pa_cons (pv 0) pa_nil)) (pa_cons pe_str pa_nil))))
        (pss_cons (ps_set (i := 2) scCall.nd rfl (Or.inl rfl) (pe_and (pe_cmpR op_le (pe_callB call_len_seq (by rfl) M.len PySem.boot_len (pa_cons (pv 1) pa_nil)) (C8.pe_gc (by rfl) M.mops) (nomark _)) (pe_one (pe_callB (cr_all rfl) (by rfl) M.all (by decide +kernel) (pa_cons
          (pe_lc (own := [("part", 3)]) (g := gName 3) (tt := tYes) (te := tCallS (spPred operandV) (fun _ => E0) (tCons (tVar 3) tNil)) rfl scCall.nd (pi_tup (pv 1)) (blkOk_by (own := [("part", 3)]) (N := ["name", "operands", "allowed", "part"]) (sc := defScope (inClass (topS 27) 5)) (by decide +kernel))
            (fun _ _ _ _ _ => pg_name (i := 3) scCall.nd rfl (Or.inl rfl)) (fun _ _ _ _ _ => pts_nil) (fun _ _ _ _ _ => pe_cx (E := fun _ => E0) M.operand hr (by omega) (by rfl) at0 (pa_cons (pv 3) pa_nil))) pa_nil)))))
        (pss_cons (ps_expr (pe_cx (E := WE (fun cls d _ H => E cls d H)) M.dem hr (Nat.le_succ _) (by rfl) (fun σ => passAt (takes_of rfl rfl rfl rfl) σ) (pa_cons (pv 2) (pa_cons pe_str pa_nil))))
        (pss_one (ps_ret (pe_mx M.make hr (Nat.le_refl _) (by rfl) (passes_call (W := fun cls d _ H => E cls d H) (takes_of rfl rfl rfl rfl) (fun _ _ _ _ h => h)) (pa_cons pe_str (pa_cons (pe_tup (pa_cons (pv 0) (pa_cons (pe_callTy call_tuple_of (by rfl) M.tuple (by decide +kernel) (pa_cons (pv 1) pa_nil)) pa_nil))) pa_nil))))))), ?_⟩
      refine q_demand (by decide +kernel) (ev_cx (ea_cons (ev_var rfl) ea_nil) (sp_pred (f := nameV) (v := .str z) hz)) (fun h1 H1 e1 => ?_) bad1
      have hu1 := e1 _ _ hu
      refine q_asg (v := .bl (opsOk ops)) (ev_andV (ev_is (ev_op (ev_is (ev_cb (ea_cons (ev_var rfl) ea_nil) (fun H2 e2 Q' q' => ⟨u, _, rfl, .inr (st_of (e2 _ _ hu1)), q' H2 (Ex.refl H2)⟩)) (by rw [hbs])) ev_c rv_I0) rfl) (fun _ => ev_all (bs := ops.map fun o => operandV o.v)
        (el_lcTy (ev_var rfl) (st_of hu1) hlen (fun _ => rfl) hlen2 (fun i x y H2 e2 hx hy => ?_)))) (fun H2 e2 => ?_)
      · obtain ⟨a1, a2⟩ := ops_at (H := H) ho hx hy
        rw [a2]
        exact ev_cx (ea_cons (ev_var rfl) ea_nil) (sp_pred a1)
      · refine q_demand (by decide +kernel) (ev_var rfl) (fun h2 H3 e3 => ?_) (bad2 h1 H2 (e1.trans e2))
        exact ret_make (p := .call z ops) ev_c (evp_call rfl rfl (OpsAt.ex ((e1.trans e2).trans e3) (.inr hu))) (good h1 h2 H3 ((e1.trans e2).trans e3))
end
end Fs

set_option Elab.async false
set_option linter.all false
set_option maxRecDepth 100000
set_option maxHeartbeats 2000000
namespace Fs
open PySem L2 Evl FsE FsC
structure LawT (K : PySem.W.Frag) (mg : Str → Option Value) : Prop where
  len : mg "len" = none
  int : mg "int" = none
  abs : mg "abs" = none
  range : mg "range" = none
section
variable {P : Program} {w : World} {K : PySem.W.Frag} {mg : Str → Option Value} {base : Heap}
theorem rc_int {K : PySem.W.Frag} {i : Int} {H : Hp} : RC (fun xs H Q => (∃ i, xs = [V.int i] ∧ Q (.int i) H) ∨ ∃ k, xs = [V.bl k] ∧ Q (.int (if k then 1 else 0)) H) [.int i] H (.int i) := fun H1 _ Q q => .inl ⟨i, rfl, q H1 (Ex.refl H1)⟩
/-- _law_cell_at(script, k): some int -/
def spCellAt (K : PySem.W.Frag) : Sp := fun vs H Q _ => ∃ (a : Addr) (ns : List Int) (k : Nat), vs = [.ref a, .int (k : Int)] ∧ SqL K H a (ns.map V.int) ∧ ∀ i : Int, RetV (.int i) H Q
theorem scCellAt : FnScope ["_law_script", "_law_k"] ["_law_script", "_law_k"] (defScope (topS 33)) := ⟨rfl, rfl, rfl, by decide +kernel, rfl, by decide +kernel, by decide +kernel⟩
theorem ok_cell_at {f : Addr} {fd : FuncData} (F : Fun K "_law_cell_at" "_law_cell_at" (topS 33) f fd) (T : LawT K mg) : FnOk P w K mg base CX0 1 f fd ["_law_script", "_law_k"] (spCellAt K) := by
  refine F.ok scCellAt (fun vs H Q E h => ?_) (fun cdv A outer s H vs Q E hr h => ?_)
  · obtain ⟨a, ns, k, rfl, _⟩ := h
    rfl
  · obtain ⟨a, ns, k, rfl, hS, q⟩ := h
    refine ⟨_, pss_cons (ps_if (pt_cmpR op_lt (pv 1) (pe_callB call_len_seq (by rfl) T.len PySem.boot_len (pa_cons (pv 0) pa_nil)) (nomark _)) (pss_one (ps_ret (pe_ix ix_list (pv 0) (pv 1) (fun _ _ => rfl)))) pss_nil) (pss_one (ps_ret pe_int)), ?_⟩
    refine q_when (b := decide ((k : Int) < ((ns.map V.int).length : Nat))) (et_test (ev_op (ev_var rfl) (ev_cb (ea_cons (ev_var rfl) ea_nil) (fun H2 e2 Q' q' => ⟨a, _, rfl, .inl (ex_l e2 hS), q' H2 (Ex.refl H2)⟩)) rv_I0)) (fun hb H1 e1 => ?_) (fun hb H1 e1 => ?_)
    · have hk : k < ns.length := by
        have : (k : Int) < ((ns.map V.int).length : Nat) := by simpa using hb
        rw [List.length_map] at this
        omega
      refine s_ret (v := .int ns[k]) (ev_op (ev_var rfl) (ev_var rfl) (rv_ixL (ex_l e1 hS) (atI_nat (by rw [List.getElem?_map, List.getElem?_eq_getElem hk]; rfl)))) (fun H2 e2 => q _ H2 (e1.trans e2))
    · exact s_ret ev_c (fun H2 e2 => q _ H2 (e1.trans e2))
/-- _law_mixed(cell, k): some int -/
def spMixed : Sp := fun vs H Q _ => ∃ (c : Int) (k : Nat), vs = [.int c, .int (k : Int)] ∧ k ≤ 1000 ∧ ∀ i : Int, RetV (.int i) H Q
theorem scMixed : FnScope ["_law_cell", "_law_k"] ["_law_cell", "_law_k"] (defScope (topS 34)) := ⟨rfl, rfl, rfl, by decide +kernel, rfl, by decide +kernel, by decide +kernel⟩
theorem ok_mixed {f : Addr} {fd : FuncData} (F : Fun K "_law_mixed" "_law_mixed" (topS 34) f fd) (T : LawT K mg) : FnOk P w K mg base CX0 1 f fd ["_law_cell", "_law_k"] spMixed := by
  refine F.ok scMixed (fun vs H Q E h => ?_) (fun cdv A outer s H vs Q E hr h => ?_)
  · obtain ⟨c, k, rfl, _⟩ := h
    rfl
  · obtain ⟨c, k, rfl, hk, q⟩ := h
    refine ⟨_, pss_one (ps_ret (pe_op op_mod (pe_op op_mul (pe_callTy call_int1 (by rfl) T.int (by decide +kernel) (pa_cons (pe_op op_add (pe_op op_mod (pe_op op_pow (pe_op op_add (pe_op op_add (pe_op op_mod (pe_callTy call_int1 (by rfl) T.int (by decide +kernel) (pa_cons (pv 0) pa_nil)) pe_int) (pe_op op_mul pe_int (pv 1))) pe_int) pe_int) pe_int) (pv 1)) pa_nil)) pe_int) pe_int)), ?_⟩
    have h1 := Int.emod_nonneg c (b := 2147483647) (by decide)
    have h2 := Int.emod_lt_of_pos c (b := 2147483647) (by decide)
    refine ⟨.int c, rfl, .inl ⟨c, rfl, c, 2147483647, rfl, rfl, (by decide : (0 : Int) < 2147483647), ?_⟩⟩
    refine ⟨.int (k : Int), rfl, 7919, (k : Int), rfl, rfl, .inl ⟨by decide, by decide⟩, ?_⟩
    refine ⟨c % 2147483647, 7919 * (k : Int), rfl, rfl, c % 2147483647 + 7919 * (k : Int), 104729, rfl, rfl, ?_⟩
    refine ⟨c % 2147483647 + 7919 * (k : Int) + 104729, 5, rfl, rfl, ⟨by decide, by decide, by omega⟩, ?_⟩
    refine ⟨_, 2147483647, rfl, rfl, (by decide : (0 : Int) < 2147483647), ?_⟩
    refine ⟨.int (k : Int), rfl, _, (k : Int), rfl, rfl, .inl ⟨_, rfl, _, 40692, rfl, rfl, .inr ⟨by decide, by decide⟩, ?_⟩⟩
    refine ⟨_, 2147483629, rfl, rfl, (by decide : (0 : Int) < 2147483629), ?_⟩
    exact q _ H (Ex.refl H)
/-- _law_row(cell, many): so many ints from 0 to 999 -/
def RowOk (row : List Int) : Prop := ∀ v ∈ row, 0 ≤ v ∧ v < 1000
def spRow : Sp := fun vs H Q _ => ∃ (c : Int) (n : Nat), vs = [.int c, .int (n : Int)] ∧ n ≤ 500 ∧ ∀ row : List Int, row.length = n → RowOk row → RetL (row.map V.int) H Q
theorem scRow : FnScope ["_law_cell", "_law_many", "_law_row_here", "_law_rest", "_law_k"] ["_law_cell", "_law_many"] (defScope (topS 35)) := ⟨rfl, rfl, rfl, by decide +kernel, rfl, by decide +kernel, by decide +kernel⟩
theorem rowOk_add {row : List Int} {v : Int} (h : RowOk row) (h0 : 0 ≤ v) (h1 : v < 1000) : RowOk (row ++ [v]) := fun x hx => by
  rcases List.mem_append.mp hx with hx | hx
  · exact h x hx
  · rw [List.mem_singleton.mp hx]
    exact ⟨h0, h1⟩
theorem ok_row {f : Addr} {fd : FuncData} (F : Fun K "_law_row" "_law_row" (topS 35) f fd) (T : LawT K mg) (GM : CalX P w K mg base CX0 1 "_law_mixed" spMixed) : FnOk P w K mg base CX0 2 f fd ["_law_cell", "_law_many"] spRow := by
  refine F.ok scRow (fun vs H Q E h => ?_) (fun cdv A outer s H vs Q E hr h => ?_)
  · obtain ⟨c, n, rfl, _⟩ := h
    rfl
  · obtain ⟨c, n, rfl, hn, q⟩ := h
    refine ⟨_, pss_cons (ps_set (i := 2) scRow.nd rfl (Or.inl rfl) (pe_lst pa_nil))
      (pss_cons (ps_set (i := 3) scRow.nd rfl (Or.inl rfl) pe_int)
      (pss_cut (ps_if (pt_cmpR op_ge (pe_callB call_abs (by rfl) T.abs (by decide +kernel) (pa_cons (pv 0) pa_nil)) (pe_op op_pow pe_int pe_int) (nomark _)) (pss_one (ps_set (i := 3) scRow.nd rfl (Or.inl rfl) (pe_callB call_abs (by rfl) T.abs (by decide +kernel) (pa_cons (pv 0) pa_nil)))) pss_nil)
      (pss_cons (ps_for PassesOwn.never rfl (pi_range1 rfl T.range (pa_cons (pv 1) pa_nil)) (pg_name (i := 4) scRow.nd rfl (Or.inl rfl))
        (pss_one (ps_if (pt_cmpR op_gt (pv 3) pe_int (nomark _))
          (pss_cons (ps_expr (pe_bm PySem.F.plainAttrs_list PySem.F.slot_list_append PySem.F.type_list_append mt_append (pv 2) (pa_cons (pe_op op_mod (pe_callTy call_int1 (by rfl) T.int (by decide +kernel) (pa_cons (pv 3) pa_nil)) pe_int) pa_nil)))
            (pss_one (ps_set (i := 3) scRow.nd rfl (Or.inl rfl) (pe_op op_fdiv (pv 3) pe_int))))
          (pss_one (ps_expr (pe_bm PySem.F.plainAttrs_list PySem.F.slot_list_append PySem.F.type_list_append mt_append (pv 2) (pa_cons (pe_op op_mod (pe_callTy call_int1 (by rfl) T.int (by decide +kernel) (pa_cons (pe_cx (E := fun _ => E0) GM hr (by decide) (by rfl) at0 (pa_cons (pv 0) (pa_cons (pv 4) pa_nil))) pa_nil)) pe_int) pa_nil)))))))
      (pss_one (ps_ret (pv 2)))))), ?_⟩
    refine q_asgL (xs := []) (el_lst ea_nil (by decide)) (fun l H1 hl e1 h1 => ?_)
    refine q_asg (v := .int 0) ev_c (fun H2 e2 => ?_)
    refine q_cut (M := fun σ' H' => ∃ r : Int, σ' = [some (.int c), some (.int (n : Int)), some (.ref l), some (.int r), none] ∧ Ex H H' ∧ H' l = some (.lst [])) ?_ (fun σ3 H3 ⟨r, hσ3, e3, h3⟩ => ?_)
    · refine s_when (b := decide ((10 : Int) ^ (18 : Int).toNat ≤ if c < 0 then -c else c)) (et_test (ev_op (ev_cb (ea_cons (ev_var rfl) ea_nil) (fun H4 _ Q' q' => ⟨c, rfl, q' H4 (Ex.refl H4)⟩)) (ev_op ev_c ev_c (rv_I ⟨by decide, by decide, by decide⟩)) rv_I0)) (fun hb H3 e3 => ?_) (fun hb H3 e3 => ?_)
      · exact s_asg (ev_cb (ea_cons (ev_var rfl) ea_nil) (fun H4 _ Q' q' => ⟨c, rfl, q' H4 (Ex.refl H4)⟩)) (fun H4 e4 => ⟨_, rfl, ((e1.trans e2).trans e3).trans e4, (e2.trans (e3.trans e4)) _ _ h1⟩)
      · exact ⟨0, rfl, (e1.trans e2).trans e3, (e2.trans e3) _ _ h1⟩
    · subst hσ3
      refine q_forR1 (n := (n : Int)) (ea_cons (ev_var rfl) ea_nil) (by omega) (fun i σ' H' => ∃ (row : List Int) (rest : Int) (v4 : Option V), σ' = [some (.int c), some (.int (n : Int)), some (.ref l), some (.int rest), v4] ∧ H' l = some (.lst (row.map V.int)) ∧ row.length = i ∧ RowOk row ∧ Ex H H')
        (fun H4 e4 => ⟨[], r, none, rfl, e4 _ _ h3, rfl, (fun v hv => nomatch hv), e3.trans e4⟩) (fun i σ' H' hi ⟨row, rest, v4, hσ, hl', hlen, hrow, he⟩ => ?_) (fun σ' H' ⟨row, rest, v4, hσ, hl', hlen, hrow, he⟩ => ?_)
      · subst hσ
        have hsz : (row.map V.int).length < 100000 := by rw [List.length_map]; omega
        have app : ∀ v : Int, row.map V.int ++ [V.int v] = (row ++ [v]).map V.int := fun v => by rw [List.map_append]; rfl
        refine s_if (b := decide (0 < rest)) (et_test (ev_op (ev_var rfl) ev_c rv_I0)) (fun hb H4 e4 => ?_) (fun hb H4 e4 => ?_)
        · refine q_app (xs := row.map V.int) (v := .int (rest % 1000)) (e4 _ _ hl') (ev_var rfl) (ev_op (x := .int rest) (ev_cb (ea_cons (ev_var rfl) ea_nil) (rc_int (K := K))) ev_c (rv_I (by decide))) hsz (fun H5 e5 => ?_)
          refine s_asg (ev_op (x := .int rest) (ev_var rfl) ev_c (rv_I ⟨by decide, by decide⟩)) (fun H6 e6 => ?_)
          refine ⟨row ++ [rest % 1000], _, _, rfl, e6 _ _ (by rw [← app]; exact upd_same), (by rw [List.length_append, hlen]; rfl), rowOk_add hrow (Int.emod_nonneg _ (by decide)) (Int.emod_lt_of_pos _ (by decide)), (Ex.mut ((he.trans e4).trans e5) hl).trans e6⟩
        · refine ⟨_, rfl, .inl ⟨rfl, _, sq_of (e4 _ _ hl')⟩, _, rfl, _, rfl, c, i, rfl, by omega, fun m H5 e5 => .inl ⟨m, rfl, m, 1000, rfl, rfl, (by decide : (0 : Int) < 1000), l, row.map V.int, .int (m % 1000), rfl, rfl, (e4.trans e5) _ _ hl', sz_lt hsz, ?_⟩⟩
          refine ⟨row ++ [m % 1000], _, _, rfl, (by rw [← app]; exact upd_same), (by rw [List.length_append, hlen]; rfl), rowOk_add hrow (Int.emod_nonneg _ (by decide)) (Int.emod_lt_of_pos _ (by decide)), Ex.mut ((he.trans e4).trans e5) hl⟩
      · subst hσ
        have hn' : row.length = n := by simpa using hlen
        refine s_ret (ev_var rfl) (fun H4 e4 => q row hn' hrow l H4 hl (he.trans e4) (e4 _ _ hl'))
end
end Fs

set_option Elab.async false
set_option linter.all false
set_option maxRecDepth 100000
set_option maxHeartbeats 2000000
/-! Lists of things that stand in the heap; what a list's change leaves. -/
namespace FsK
open PySem PySem.Spec PyProof.Rows L2 Evl FsE FsC FsR Fs
/-- a list may change: what stands in objects and tuples stays -/
structure ExN (H H' : Hp) : Prop where
  ins : ∀ a C dx fs, H a = some (.ins C dx fs) → H' a = some (.ins C dx fs)
  tup : ∀ a xs, H a = some (.tup xs) → H' a = some (.tup xs)
theorem ExN.upd {H : Hp} {l : Addr} {xs ys : List V} (h : H l = some (.lst xs)) : ExN H (upd H l (.lst ys)) := ⟨fun a C dx fs ha => by
    rw [upd_ne (fun z => by rw [z, h] at ha; cases ha)]
    exact ha, fun a xs ha => by
    rw [upd_ne (fun z => by rw [z, h] at ha; cases ha)]
    exact ha⟩
theorem ExN.of {H H' : Hp} (e : Ex H H') : ExN H H' := ⟨fun _ _ _ _ h => e _ _ h, fun _ _ h => e _ _ h⟩
theorem ExN.trans {H H1 H2 : Hp} (e : ExN H H1) (e' : ExN H1 H2) : ExN H H2 := ⟨fun a C dx fs h => e'.ins _ _ _ _ (e.ins _ _ _ _ h), fun a xs h => e'.tup _ _ (e.tup _ _ h)⟩
mutual
theorem PrAt.keep {C : Addr} {H H' : Hp} (e : ExN H H') : ∀ {p : Pr} {a : Addr}, PrAt C H a p → PrAt C H' a p
  | .choice os, a, h => by
    unfold PrAt at h ⊢
    obtain ⟨t, ps, ⟨dx, h1⟩, h2, h3⟩ := h
    exact ⟨t, ps, ⟨dx, e.ins _ _ _ _ h1⟩, e.tup _ _ h2, OfsAt.keep e h3⟩
  | .new n k r, a, h => by
    unfold PrAt at h ⊢
    obtain ⟨t, b, ⟨dx, h1⟩, h2, h3⟩ := h
    exact ⟨t, b, ⟨dx, e.ins _ _ _ _ h1⟩, e.tup _ _ h2, PrAt.keep e h3⟩
  | .cond l r y n, a, h => by
    unfold PrAt at h ⊢
    obtain ⟨t, b, c, ⟨dx, h1⟩, h2, h3, h4⟩ := h
    exact ⟨t, b, c, ⟨dx, e.ins _ _ _ _ h1⟩, e.tup _ _ h2, PrAt.keep e h3, PrAt.keep e h4⟩
  | .call n ops, a, h => by
    unfold PrAt at h ⊢
    obtain ⟨t, u, ⟨dx, h1⟩, h2, h3⟩ := h
    exact ⟨t, u, ⟨dx, e.ins _ _ _ _ h1⟩, e.tup _ _ h2, e.tup _ _ h3⟩
theorem OfsAt.keep {C : Addr} {H H' : Hp} (e : ExN H H') : ∀ {os : Ofs} {ps : List V}, OfsAt C H ps os → OfsAt C H' ps os
  | .nil, ps, h => by
    unfold OfsAt at h ⊢
    exact h
  | .cons c s m op ns r os, ps, h => by
    unfold OfsAt at h ⊢
    obtain ⟨o, u, b, qs, h1, h2, h3, h4, h5⟩ := h
    exact ⟨o, u, b, qs, h1, e.tup _ _ h2, e.tup _ _ h3, PrAt.keep e h4, OfsAt.keep e h5⟩
end
/-- item by item -/
def LsA {α : Type} (R : Hp → V → α → Prop) (H : Hp) : List V → List α → Prop
  | [], [] => True
  | v :: vs, x :: xs => R H v x ∧ LsA R H vs xs
  | _, _ => False
section
variable {α : Type} {R : Hp → V → α → Prop} {H H' : Hp}
theorem LsA.imp (e : ∀ v x, R H v x → R H' v x) : ∀ {vs : List V} {xs : List α}, LsA R H vs xs → LsA R H' vs xs
  | [], [], _ => True.intro
  | _ :: _, _ :: _, h => ⟨e _ _ h.1, LsA.imp e h.2⟩
  | [], _ :: _, h => h.elim
  | _ :: _, [], h => h.elim
theorem LsA.append : ∀ {vs ws : List V} {xs ys : List α}, LsA R H vs xs → LsA R H ws ys → LsA R H (vs ++ ws) (xs ++ ys)
  | [], _, [], _, _, g => g
  | _ :: _, _, _ :: _, _, h, g => ⟨h.1, LsA.append h.2 g⟩
  | [], _, _ :: _, _, h, _ => h.elim
  | _ :: _, _, [], _, h, _ => h.elim
theorem LsA.snoc {v : V} {x : α} {vs : List V} {xs : List α} (h : LsA R H vs xs) (hv : R H v x) : LsA R H (vs ++ [v]) (xs ++ [x]) := h.append ⟨hv, True.intro⟩
theorem LsA.length : ∀ {vs : List V} {xs : List α}, LsA R H vs xs → vs.length = xs.length
  | [], [], _ => rfl
  | _ :: _, _ :: _, h => congrArg (· + 1) (LsA.length h.2)
  | [], _ :: _, h => h.elim
  | _ :: _, [], h => h.elim
theorem LsA.get : ∀ {vs : List V} {xs : List α} {i : Nat} {v : V}, LsA R H vs xs → vs[i]? = some v → ∃ x, xs[i]? = some x ∧ R H v x
  | _ :: _, x :: _, 0, v, h, e => ⟨x, rfl, by cases e; exact h.1⟩
  | _ :: _, _ :: _, i + 1, v, h, e => LsA.get (i := i) h.2 e
  | [], _, _, _, _, e => by simp at e
  | _ :: _, [], _, _, h, _ => h.elim
theorem LsA.at_ {vs : List V} {xs : List α} {i : Nat} (h : LsA R H vs xs) (hi : i < vs.length) : ∃ v x, vs[i]? = some v ∧ xs[i]? = some x ∧ R H v x := by
  obtain ⟨x, h1, h2⟩ := LsA.get h (List.getElem?_eq_getElem hi)
  exact ⟨_, x, List.getElem?_eq_getElem hi, h1, h2⟩
end
/-- it evaluates to something with this word -/
def EvS (te : TE) (σ : L2.St) (H : Hp) (Pv : V → Hp → Prop) : Prop := ∀ H1, Ex H H1 → ∀ Q : VK, (∀ v H2, Ex H1 H2 → Pv v H2 → Q v H2) → te σ H1 Q
section
variable {σ : L2.St} {H : Hp} {te ta : TE} {Pv : V → Hp → Prop} {K : PySem.W.Frag} {D : Ends} {tz : TS}
theorem s_appS {l : Addr} {xs : List V} (hl : H l = some (.lst xs)) (ha : Ev ta σ H (.ref l)) (h : EvS te σ H Pv) (hz : xs.length < 100000) (k : ∀ v H1, Ex H H1 → Pv v H1 → D.nx σ (upd H1 l (.lst (xs ++ [v])))) :
    tDrop (tBM K "list" rAppend ta (tCons te tNil)) D σ H := ha H (Ex.refl H) _ fun H1 e1 =>
  ⟨Or.inl ⟨rfl, xs, sq_of (e1 l _ hl)⟩, h H1 e1 _ fun v H2 e2 hv => ⟨l, xs, v, rfl, rfl, e2 l _ (e1 l _ hl), sz_lt hz, k v H2 (e1.trans e2) hv⟩⟩
theorem q_asgS {i : Nat} (h : EvS te σ H Pv) (k : ∀ v H1, Ex H H1 → Pv v H1 → tz D (σ.set i (some v)) H1) : tSeq (tAsg te (gName i)) tz D σ H := h H (Ex.refl H) _ fun v H1 e1 hv => k v H1 e1 hv
theorem s_retS (h : EvS te σ H Pv) (k : ∀ v H1, Ex H H1 → Pv v H1 → D.rt v H1) : tRet te D σ H := h H (Ex.refl H) _ fun v H1 e1 hv => k v H1 e1 hv
/-- a slice of a new list -/
theorem el_slN {tl th : TO} {xs : List V} {lo hi : Option Int} (h : EvL te σ H xs) (h1 : EvO tl σ H lo) (h2 : EvO th σ H hi) : EvL (tSl (rSlL K) te tl th) σ H (cutV xs lo hi) := fun H1 e Q q =>
  h H1 e _ fun a H2 ha e2 h2' => h1 H2 (e.trans e2) _ fun H3 e3 => h2 H3 ((e.trans e2).trans e3) _ fun H4 e4 =>
    ⟨a, xs, rfl, sq_of ((e3.trans e4) _ _ h2'), fun p hp => q p _ (fresh_back ((e2.trans e3).trans e4) hp) (((e2.trans e3).trans e4).trans (Ex.new hp)) upd_same⟩
end
end FsK

set_option Elab.async false
set_option linter.all false
set_option maxRecDepth 100000
set_option maxHeartbeats 4000000
/-! the law's processes, and what it asks of a net -/
namespace Fs
open PySem L2 Evl FsE FsC FsR FsA FsQ
def cL (l : Int) : Nat := 97 + (l % 8).toNat
def zL (l : Int) : Str := ("p" : Str) ++ (⟨#[cL l]⟩ : Str)
def pL (l : Int) : Pr := .call (zL l) [.int l]
abbrev eightS : Str := "abcdefgh"
theorem m8 (l : Int) : ∃ j : Nat, j < 8 ∧ l % 8 = (j : Int) := ⟨(l % 8).toNat, by omega, by omega⟩
theorem eight_at (l : Int) : atI eightS.cps.toList (l % 8) = some (cL l) := by
  obtain ⟨j, hj, e⟩ := m8 l
  have h : ∀ j, j < 8 → eightS.cps.toList[j]? = some (97 + j) := by decide +kernel
  unfold cL
  rw [e]
  exact atI_nat (h j hj)
theorem zL_ok (l : Int) : nameS (zL l) = true ∧ PyData.strOk (zL l) = true ∧ (zL l).length = 2 := by
  obtain ⟨j, hj, e⟩ := m8 l
  have h : ∀ j, j < 8 → nameS (("p" : Str) ++ (⟨#[97 + j]⟩ : Str)) = true ∧ PyData.strOk (("p" : Str) ++ (⟨#[97 + j]⟩ : Str)) = true ∧ (("p" : Str) ++ (⟨#[97 + j]⟩ : Str)).length = 2 := by decide +kernel
  unfold zL cL
  rw [e]
  exact h j hj
theorem op_lbl {l : Int} (h0 : 0 ≤ l) (h1 : l ≤ 4000) : operandV (.int l) = true := by
  have e1 : (decide (-(10 ^ 30) < l)) = true := decide_eq_true (by have := (by decide : (0 : Int) < 10 ^ 30); omega)
  have e2 : (decide (l < 10 ^ 30)) = true := decide_eq_true (by have := (by decide : (4000 : Int) < 10 ^ 30); omega)
  show ((decide (-(10 ^ 30) < l) && decide (l < 10 ^ 30)) || nameV (.int l)) = true
  rw [e1, e2]
  rfl
theorem bad_lbl {l : Int} (h0 : 0 ≤ l) (h1 : l ≤ 4000) : badCall (zL l) [.int l] = none := by
  unfold badCall opsOk
  rw [if_pos (zL_ok l).1]
  have e : (([Opd.int l].map fun o => operandV o.v).all id) = true := by
    show (operandV (.int l) && true) = true
    rw [op_lbl h0 h1]
    rfl
  rw [e, if_pos (by rfl)]
  unfold badInit
  rw [if_pos (by show (Pr.call (zL l) [.int l]).depth ≤ 20; unfold Pr.depth; decide), if_pos (by show (Pr.call (zL l) [.int l]).size ≤ 400; unfold Pr.size; decide)]
theorem pL_inj {l m : Int} (h : pL l = pL m) : l = m := by
  unfold pL at h
  injection h with h1 h2
  injection h2 with h2
  injection h2
section
variable {P : Program} {w : World} {K : PySem.W.Frag} {mg : Str → Option Value} {base : Heap} {C N CB : Addr}
/-- the label's text -/
theorem rv_cat {x y : Str} {H : Hp} (h : x.length + y.length ≤ 100000) : RV (fun x y H Q => ∃ i j, x = V.str i ∧ y = V.str j ∧ i.length + j.length ≤ sizeLine ∧ Q (.str (i ++ j)) H) (.str x) (.str y) H (.str (x ++ y)) := fun H1 _ Q q => ⟨x, y, rfl, rfl, sz_of h, q H1 (Ex.refl H1)⟩
theorem ev_zL (K : PySem.W.Frag) {σ : L2.St} {H : Hp} {ta : TE} {l : Int} (h : Ev ta σ H (.int l)) : Ev (tOp (fun x y H Q => ∃ i j, x = V.str i ∧ y = V.str j ∧ i.length + j.length ≤ sizeLine ∧ Q (V.str (i ++ j)) H) (tC (.str "p")) (tOp rIxS (tC (.str eightS)) (tOp (rI (fun _ j => 0 < j) fun i j => .int (i % j)) (tCB (fun xs H Q => (∃ i, xs = [V.int i] ∧ Q (.int i) H) ∨ ∃ k, xs = [V.bl k] ∧ Q (V.int (if k = true then 1 else 0)) H) (tCons ta tNil)) (tC (.int 8))))) σ H (.str (zL l)) :=
  ev_op ev_c (ev_op (y := .int (l % 8)) ev_c (ev_op (x := .int l) (ev_cb (ea_cons h ea_nil) (rc_int (K := K))) ev_c (rv_I (by decide))) (rv_ixS (by show 8 ≤ 100000; decide) (eight_at l))) (rv_cat (by show 1 + 1 ≤ 100000; decide))
/-- _law_process(label) -/
def spLp (C : Addr) : Sp := fun vs H Q _ => ∃ l : Int, vs = [.int l] ∧ 0 ≤ l ∧ l ≤ 4000 ∧ ∀ a H', H a = none → Ex H H' → PrAt C H' a (pL l) → Q (.ref a) H'
theorem scLp : FnScope ["_law_label"] ["_law_label"] (defScope (topS 36)) := ⟨rfl, rfl, rfl, by decide +kernel, rfl, by decide +kernel, by decide +kernel⟩
theorem ok_lp {f : Addr} {fd : FuncData} {k : Nat} (F : Fun K "_law_process" "_law_process" (topS 36) f fd) (L : LawT K mg) (TP : TerT K mg C CB) (SC : StaX P w K mg base (L2.CX P w) k C "call" (spCall K C CB)) : FnOk P w K mg base CX0 (k + 1) f fd ["_law_label"] (spLp C) := by
  refine F.ok scLp (fun vs H Q E h => ?_) (fun cdv A outer s H vs Q E hr h => ?_)
  · obtain ⟨l, rfl, _⟩ := h
    rfl
  · obtain ⟨l, rfl, h0, h1, q⟩ := h
    refine ⟨_, pss_one (ps_ret (pe_sx (E := fun _ => E0) SC hr (Nat.le_refl _) (pe_glob (v := .ref C) (by rfl) TP.mgC rfl) (fun σ => passesAt_of passL σ)
      (pa_cons (pe_op op_add_str pe_str (pe_ix ix_str pe_str (pe_op op_mod (pe_callTy call_int1 (by rfl) L.int (by decide +kernel) (pa_cons (pv 0) pa_nil)) pe_int) (fun _ _ => rfl))) (pa_cons (pe_lst (pa_cons (pv 0) pa_nil)) pa_nil)))), ?_⟩
    refine ⟨rfl, ev_zL K (ev_var rfl) H (Ex.refl H) _ fun H2 e2 => ?_⟩
    refine el_lst (vs := [.int l]) (H := H2) (ea_cons (ev_var rfl) ea_nil) (by show 1 ≤ 100000; decide) H2 (Ex.refl H2) _ fun u H3 hu e3 h3 => ?_
    exact ⟨zL l, u, [.int l], rfl, by rw [(zL_ok l).2.2]; decide, .inl h3, by show 1 ≤ 90; decide, fun o ho => by rw [List.mem_singleton.mp ho]; exact True.intro, fun _ a H4 ha e4 h4 => q a H4 (fresh_back (e2.trans e3) ha) ((e2.trans e3).trans e4) h4, fun f hf => by rw [bad_lbl h0 h1] at hf; cases hf⟩
end
end Fs

set_option Elab.async false
set_option linter.all false
set_option maxRecDepth 100000
set_option maxHeartbeats 8000000
/-! what the law asks of a net -/
namespace Fs
open PySem L2 Evl FsE FsC FsR FsA FsQ FsK
theorem kNeF : (!decide (V.str "call" = V.str "call")) = false := by decide +kernel
def LbOk (ls : List Int) : Prop := ∀ l ∈ ls, 0 ≤ l ∧ l ≤ 4000
theorem PrsAt.at_ {C : Addr} {H : Hp} : ∀ {xs : List V} {ls : List Int} {i : Nat} {l : Int}, PrsAt C H xs (ls.map pL) → ls[i]? = some l → ∃ a, xs[i]? = some (.ref a) ∧ PrAt C H a (pL l)
  | [], [], _, _, _, e => by simp at e
  | [], _ :: _, _, _, h, _ => h.elim
  | _ :: _, [], _, _, h, _ => h.elim
  | x :: xs, m :: ls, 0, l, ⟨⟨a, h1, h2⟩, _⟩, e => by
    cases e
    exact ⟨a, by rw [h1]; rfl, h2⟩
  | x :: xs, m :: ls, i + 1, l, ⟨_, h3⟩, e => PrsAt.at_ (i := i) h3 e
section
variable {σ : L2.St} {H : Hp} {ta tb te : TE} {K : PySem.W.Frag}
theorem ev_opS {r : R2} {x z : V} {Pv : V → Hp → Prop} (ha : Ev ta σ H x) (hb : EvS tb σ H Pv) (hr : ∀ y H1, Ex H H1 → Pv y H1 → RV r x y H1 z) : Ev (tOp r ta tb) σ H z := fun H1 e Q q =>
  ha H1 e _ fun H2 e2 => hb H2 (e.trans e2) _ fun y H3 e3 hy => hr y H3 ((e.trans e2).trans e3) hy H3 (Ex.refl H3) Q fun H4 e4 => q H4 ((e2.trans e3).trans e4)
theorem rv_neD {x y : V} {d : PyData} (hx : ∀ H1, Ex H H1 → Dp K H1 x d) (hy : ∀ H1, Ex H H1 → Dp K H1 y d) (hs : SeqAt.shaped d = true) : RV (rNeD K) x y H (.bl false) := fun H1 e Q q => ⟨d, d, hx H1 e, hy H1 e, hs, hs, by rw [SeqAt.eqv_refl d (SeqAt.canLay_of_shaped hs)]; exact q H1 (Ex.refl H1)⟩
theorem es_pair {tx ty : TE} {x y : V} (hx : Ev tx σ H x) (hy : Ev ty σ H y) : EvS (tTup (tCons tx (tCons (tTup (tCons ty tNil)) tNil))) σ H (fun v H' => ∃ p q, v = .ref p ∧ H' p = some (.tup [x, .ref q]) ∧ H' q = some (.tup [y])) := fun H1 e1 Q k =>
  hx H1 e1 _ fun H2 e2 => hy H2 (e1.trans e2) _ fun H3 e3 => ⟨by show 1 ≤ sizeLine; decide, fun q hq => ⟨by show 2 ≤ sizeLine; decide, fun p hp => k (.ref p) _ ((e2.trans e3).trans ((Ex.new hq).trans (Ex.new hp))) ⟨p, q, rfl, upd_same, (Ex.new hp) _ _ upd_same⟩⟩⟩
theorem ev_lenN {N : Addr} {E : XK} {r : Addr} {xs : List V} (h : Ev te σ H (.ref r)) (hr : NtAt N H r xs) (hz : xs.length ≤ 1000) : Ev (tCB (rLenO N (spNtLen N) E) (tCons te tNil)) σ H (.int (xs.length : Int)) := fun H1 e Q q =>
  h H1 e _ fun H2 e2 => by
    have r3 := hr.ex (e.trans e2)
    have r3' := r3
    obtain ⟨dx, t, h1, h2⟩ := r3'
    exact ⟨r, dx, _, rfl, h1, r, xs, rfl, r3, fun H4 e4 => ⟨xs.length, rfl, by omega, q H4 (e2.trans e4)⟩⟩
end
theorem sh_lbl (l : Int) : SeqAt.shaped (.tuple [.str (zL l), .tuple [.int l]]) = true := by
  have hf : PyData.strOk (zL l) = true := (zL_ok l).2.1
  simp [SeqAt.shaped, PyData.canLay0, PyData.canLayAll0, PyData.depth, PyData.depthAll, hf]
section
variable {P : Program} {w : World} {K : PySem.W.Frag} {mg : Str → Option Value} {base : Heap} {C N CB : Addr}
/-- _law_is(net, labels), as it should be -/
def spIs (K : PySem.W.Frag) (C N : Addr) : Sp := fun vs H Q _ => ∃ (a l : Addr) (xs : List V) (ls : List Int), vs = [.ref a, .ref l] ∧ NtAt N H a xs ∧ PrsAt C H xs (ls.map pL) ∧ H l = some (.lst (ls.map V.int)) ∧ LbOk ls ∧ ls.length ≤ 100 ∧ RetV (.bl true) H Q
abbrev nsIs : List Str := ["_law_net", "_law_labels", "_law_k", "_law_one"]
theorem scIs : FnScope nsIs ["_law_net", "_law_labels"] (defScope (topS 37)) := ⟨rfl, rfl, rfl, by decide +kernel, rfl, by decide +kernel, by decide +kernel⟩
theorem ok_is {f fl fg : Addr} {fd fdl fdg : FuncData} (F : Fun K "_law_is" "_law_is" (topS 37) f fd) (L : LawT K mg) (TP : TerT K mg C CB)
    (LM : LenM K N fl) (FL : FnOk P w K mg base CX0 1 fl fdl ["self"] (spNtLen N)) (BL : Binds K fdl ["self"] []) (IX : IxM K N fg) (FG : FnOk P w K mg base CX0 2 fg fdg ["self", "at"] (spNtGet N)) (BG : Binds K fdg ["self", "at"] []) :
    FnOk P w K mg base CX0 4 f fd ["_law_net", "_law_labels"] (spIs K C N) := by
  refine F.ok scIs (fun vs H Q E h => ?_) (fun cdv A outer s H vs Q E hr h => ?_)
  · obtain ⟨a, l, xs, ls, rfl, _⟩ := h
    rfl
  · obtain ⟨a, l, xs, ls, rfl, ha, hp, hl, hok, hlen, q⟩ := h
    refine ⟨_, pss_cons (ps_if (pt_cmpR op_ne (pe_callB (call_lenO (E := E0) LM FL (hr.mono (by decide)) BL (fun σ => at0 (E := fun _ => E0) σ)) (by rfl) L.len PySem.boot_len (pa_cons (pv 0) pa_nil)) (pe_callB call_len_seq (by rfl) L.len PySem.boot_len (pa_cons (pv 1) pa_nil)) (nomark _)) (pss_one (ps_ret pe_bl)) pss_nil)
      (pss_cons (ps_for PassesOwn.never rfl (pi_range1 rfl L.range (pa_cons (pe_callB call_len_seq (by rfl) L.len PySem.boot_len (pa_cons (pv 1) pa_nil)) pa_nil)) (pg_name (i := 2) scIs.nd rfl (Or.inl rfl))
        (pss_cons (ps_set (i := 3) scIs.nd rfl (Or.inl rfl) (pe_ixO (E := fun _ => E0) (pv 0) (pv 2) IX FG hr BG at0))
        (pss_one (ps_if (PW.pt (pw_or (pt_cmpR op_ne (pe_fld (pv 3) rfl) pe_str (nomark _))
            (pw_or1 (pt_cmpR (op_neD hr.units) (pe_fld (pv 3) rfl) (pe_tup (pa_cons (pe_op op_add_str pe_str (pe_ix ix_str pe_str (pe_op op_mod (pe_callTy call_int1 (by rfl) L.int (by decide +kernel) (pa_cons (pe_ix ix_list (pv 1) (pv 2) (fun _ _ => rfl)) pa_nil)) pe_int) (fun _ _ => rfl)))
              (pa_cons (pe_tup (pa_cons (pe_ix ix_list (pv 1) (pv 2) (fun _ _ => rfl)) pa_nil)) pa_nil))) (nomark _))))) (pss_one (ps_ret pe_bl)) pss_nil))))
      (pss_one (ps_ret pe_bl))), ?_⟩
    have hxl : xs.length = ls.length := by rw [hp.len, List.length_map]
    have lenL : ∀ H9, Ex H H9 → RC (fun xs H Q => ∃ p ys, xs = [V.ref p] ∧ (SqL K H p ys ∨ SqT K H p ys) ∧ Q (.int ys.length) H) [.ref l] H9 (.int (ls.length : Int)) := fun H9 e9 H10 e10 Q' q' => ⟨l, _, rfl, .inl (sq_of ((e9.trans e10) _ _ hl)), by rw [List.length_map]; exact q' H10 (Ex.refl H10)⟩
    refine q_when (b := false) (et_is (et_test (ev_op (x := .int (xs.length : Int)) (y := .int (ls.length : Int)) (ev_lenN (ev_var rfl) ha (by omega)) (ev_cb (ea_cons (ev_var rfl) ea_nil) (lenL H (Ex.refl H))) (rv_ne rfl))) (by rw [hxl, decide_eq_true rfl]; rfl)) (fun hb => nomatch hb) (fun _ H1 e1 => ?_)
    refine q_forR1 (n := (ls.length : Int)) (ea_cons (ev_cb (ea_cons (ev_var rfl) ea_nil) (lenL H1 e1)) ea_nil) (by omega) (fun i σ' H' => ∃ (v2 v3 : Option V), σ' = [some (.ref a), some (.ref l), v2, v3] ∧ Ex H H')
      (fun H2 e2 => ⟨_, _, rfl, e1.trans e2⟩) (fun i σ' H' hi ⟨v2, v3, hσ, he⟩ => ?_) (fun σ' H' ⟨v2, v3, hσ, he⟩ => ?_)
    · subst hσ
      have hi' : i < ls.length := by omega
      obtain ⟨m, hm⟩ : ∃ m, ls[i]? = some m := ⟨ls[i], List.getElem?_eq_getElem hi'⟩
      have hml : (ls.map V.int)[i]? = some (.int m) := by rw [List.getElem?_map, hm]; rfl
      obtain ⟨b, hb, pb⟩ := hp.at_ hm
      refine q_asg (v := .ref b) (ev_ntix (ev_var rfl) (ev_var rfl) (ha.ex he) hb) (fun H2 e2 => ?_)
      have y2 := he.trans e2
      obtain ⟨t', ps', ⟨dx', g1⟩, g2, g3⟩ := (pb.ex y2).out
      obtain ⟨u', rfl, gu'⟩ := g3
      have lbl : ∀ H3, Ex H2 H3 → Ev (tOp (rIxL K) (tVar 1) (tVar 2)) [some (.ref a), some (.ref l), some (.int (i : Int)), some (.ref b)] H3 (.int m) := fun H3 e3 => ev_op (ev_var rfl) (ev_var rfl) (rv_ixL (sq_of ((y2.trans e3) _ _ hl)) (atI_nat hml))
      refine s_when (b := false) (et_or (a := false) (b := false) (et_is (et_test (ev_op (ev_fld (ev_var rfl) g1 TP.cl TP.nK pf_kind) ev_c (rv_ne rfl))) kNeF)
        (fun _ => et_test (ev_opS (ev_fld (ev_var rfl) g1 TP.cl TP.nP pf_parts)
          (es_pair (x := .str (zL m)) (y := .int m) (ev_zL K (lbl H2 (Ex.refl H2))) (lbl H2 (Ex.refl H2)))
          (fun y H3 e3 ⟨p, q9, hy, hp, hq9⟩ => by
            subst hy
            exact rv_neD (d := .tuple [.str (zL m), .tuple [.int m]]) (fun H4 e4 => .tup (st_of ((e3.trans e4) _ _ g2)) (.cons (.str _) (.cons (.tup (st_of ((e3.trans e4) _ _ gu')) (.cons (.int _) .nil)) .nil)))
              (fun H4 e4 => .tup (st_of (e4 _ _ hp)) (.cons (.str _) (.cons (.tup (st_of (e4 _ _ hq9)) (.cons (.int _) .nil)) .nil))) (sh_lbl m))))) (fun hb => nomatch hb) (fun _ H3 e3 => ⟨_, _, rfl, y2.trans e3⟩)
    · subst hσ
      exact s_ret ev_c (fun H2 e2 => q H2 (he.trans e2))
end
end Fs

set_option Elab.async false
set_option linter.all false
set_option maxRecDepth 100000
set_option maxHeartbeats 2000000
/-! a op b, both instances of one class of the program that defines the operator. -/
namespace FsR
open PySem PySem.Spec PyProof.Rows L2 ClX
structure OpM (K : PySem.W.Frag) (C : Addr) (op : Operator) (g : Addr) : Prop where
  fst : PySem.W.selfFirst K C = true
  at_ : PySem.W.findIn K (.ref C) (PySem.dunder op.info.2) = some (some (.ref g))
  fn : PySem.W.isFn K (.ref g) = true
/-- a op b -/
def tOwn (C : Addr) (sp : Sp) (E : L2.St → XK) (ta tb : TE) : TE := fun σ H Q => ta σ H fun x H1 => tb σ H1 fun y H2 => ∃ (a b dx dy : Addr) (fs gs : List (Str × V)), x = .ref a ∧ y = .ref b ∧ H2 a = some (.ins C dx fs) ∧ H2 b = some (.ins C dy gs) ∧ sp [.ref a, .ref b] H2 Q (E σ)
theorem no_notimpl {y : V} (r : RelV y Value.notImplemented) : False := by
  cases y <;> first | (obtain ⟨t, e⟩ := r; cases e; done) | (cases r; done)
theorem pe_own {X : Cx} {CX : CXT} {k : Nat} {C g : Addr} {fd : FuncData} {ps : List Str} {sp : Sp} {E : L2.St → XK} {ea eb : Expr} {op : Operator} {pos : Pos} {ta tb : TE} (ha : PE X ea ta) (hb : PE X eb tb) (M : OpM X.K C op g) (F : FnOk X.prog X.w X.K X.mg X.base CX k g fd ps sp) (hr : Room k X.A) (hd : Binds X.K fd ps [])
    (hx : ∀ σ, PassesAt CX X σ (E σ)) : PE X (.BinOp ea op eb pos) (tOwn C sp E ta tb) := by
  refine ⟨fun pins s σ H Q I h => wpAny_BinOp (binT ha hb I h fun v u s2 x y H2 I2 rx ry q => ?_)⟩
  obtain ⟨a, b, dx, dy, fs, gs, rfl, rfl, h1, h2, q⟩ := q
  obtain rfl : v = Value.ref a := rx
  obtain rfl : u = Value.ref b := ry
  obtain ⟨_, O1, _, _, _, _⟩ := ins_get I2.hok h1
  obtain ⟨_, O2, _, _, _, _⟩ := ins_get I2.hok h2
  obtain ⟨_, i1, _⟩ := O1.look
  obtain ⟨_, i2, _⟩ := O2.look
  obtain ⟨m, fr⟩ := I2.fr
  refine PySem.W.binop_K fr I2.ok.mod.kin i1 i2.type M.fst M.at_ M.fn (wpAny_mono (run_fnS (us := [.ref a, .ref b]) (vs := [.ref a, .ref b]) F hr hd (hx σ) I2 (.cons rfl (.cons rfl .nil)) q) (fun w s' hw => ?_) fun _ _ z => z)
  obtain ⟨y, H', J, r, q'⟩ := hw
  have fin : EP X pins σ Q w s' := ⟨y, H', J, r, q'⟩
  cases w with
  | notImplemented => exact no_notimpl r
  | _ => exact fin
end FsR

set_option Elab.async false
set_option linter.all false
set_option maxRecDepth 100000
set_option maxHeartbeats 2000000
/-! a op b of two own classes; i op b, b's class reflected; x op= b by the own method. -/
namespace PySem.W
open PySem PyProof.Rows
section
variable {prog : Program} {w : World} {A : Around} {E : Value → Shared → Prop} {s : Shared} {K : Frag} {x y C D L f : Addr} {h₀ : Heap} {m : Str → Option Value} {ox oy : Obj} {od oe : Option Obj} {nm : Str} {dx : Addr}
/-- own classes' operators: the left one's comes first -/
theorem mix_bin {op : Operator} {g : Addr} {Q : Value → Shared → Prop} (F : Fr h₀ L s.heap m) (X₀ : K.In h₀) (I : InstAt s.heap x ox C od) (J : InstAt s.heap y oy D oe) (hc : selfFirst K C = true) (hd : selfFirst K D = true) (hne : C ≠ D)
    (hs : findIn K (.ref C) (PySem.dunder op.info.2) = some (some (.ref f))) (hf : isFn K (.ref f) = true) (hr : findIn K (.ref C) (dunderR op.info.2) = some none)
    (hs2 : findIn K (.ref D) (PySem.dunder op.info.2) = some (some (.ref g))) (hr2 : findIn K (.ref D) (dunderR op.info.2) = some none) (hsub : subIn K (.ref D) (.ref C) = some false)
    (h : wpAny (model prog w) A (call (.ref f) [.ref x, .ref y]) (CmpBack Q) E s) : wpAny (model prog w) A (binaryOp op (.ref x) (.ref y)) Q E s := by
  have X := X₀.keeps F.keep
  obtain ⟨cd, rest, hcd, hm⟩ := ksp_first hc
  obtain ⟨dd, rest2, hdd, hm2⟩ := ksp_first hd
  rcases hi : op.info with ⟨sym, nm'⟩
  rw [hi] at hs hr hs2 hr2
  dsimp only at hs hr hs2 hr2
  have one := ksp_try X I hs hf h
  obtain ⟨hh, gg, d, tt, os⟩ := s
  have L1 : Looks (model prog w) hh (typeOf (.ref x)) (.ref C) := I.type
  have L2 : Looks (model prog w) hh (typeOf (.ref y)) (.ref D) := J.type
  have L3 : Looks (model prog w) hh (fillsNumberSlot (.ref C) nm') true := fills_K X hcd hm hs
  have L4 : Looks (model prog w) hh (fillsNumberSlot (.ref D) nm') true := fills_K X hdd hm2 hs2
  have L5 : Looks (model prog w) hh (isSubtype (.ref D) (.ref C)) false := looks_subIn X hsub
  have L6 : Looks (model prog w) hh (numberSlotInPython (.ref C) nm') true := ksp_inPy X hs hr (.inl rfl)
  have L7 : Looks (model prog w) hh (numberSlotInPython (.ref D) nm') true := ksp_inPy X hs2 hr2 (.inl rfl)
  have L8 : Looks (model prog w) hh (typeLookup (.ref D) (dunderR nm')) none := looks_findIn X hr2
  have L9 : Looks (model prog w) hh (typeLookup (.ref C) (dunderR nm')) none := looks_findIn X hr
  have L10 : Looks (model prog w) hh (typeLookup (.ref D) (PySem.dunder nm')) (some (.ref g)) := looks_findIn X hs2
  have L11 : Looks (model prog w) hh (typeLookup (.ref C) (PySem.dunder nm')) (some (.ref f)) := looks_findIn X hs
  have hne' : (Value.ref C == Value.ref D) = false := Bool.eq_false_iff.mpr fun q => hne (by cases beq_iff_eq.mp q; rfl)
  simp only [binaryOp, hi]
  refine wpAny_holding (wpAny_bind ?_)
  unfold binaryOp1
  refine wpAny_bind (L1.at (wpAny_bind (L2.at (wpAny_bind (L3.at ?_)))))
  simp only [hne', Bool.false_eq_true, if_false]
  ksp_lk
  refine wpAny_mono one (fun r s' hr' => ?_) fun _ _ e => e
  obtain ⟨v, rfl, hq⟩ := hr'
  ksp_lk
  exact hq
theorem int_mul_own {i : Int} {t : Tok} {Q : Value → Shared → Prop} (X : K.In s.heap) (J : InstAt s.heap y (instObj D dx) D oe) (hsub : subIn K (.ref D) (.type "int") = some false) (h : Q .notImplemented s) : wpAny (model prog w) A (call (.builtin "int.__mul__") [.int i t, .ref y]) Q E s := by
  refine call_meets F.slot_int_mul (typeIs_int s i t) F.entry_int_mul (F.args_int_mul_2 _ _) (S := fun A R s => (K.In s.heap ∧ InstAt s.heap y (instObj D dx) D oe) ∧ R (.ok (.ret .notImplemented)) s) ?_ ⟨⟨X, J⟩, h⟩
  intro prog w A R s h
  obtain ⟨hp, g, d, tk, os⟩ := s
  obtain ⟨⟨X, J⟩, h⟩ := h
  have L2 : Looks (model prog w) hp (typeOf (.ref y)) (.ref D) := J.type
  have L5 : Looks (model prog w) hp (isSubtype (.ref D) (.type "int")) false := looks_subIn X hsub
  have hg : Heap.get? (Shared.heap ⟨hp, g, d, tk, os⟩) y = some (instObj D dx) := J.at_
  wp_walk
  exact h
theorem fills_R {M : Model} {nr : String} {cd : ClassData} {rest : List Value} (X : K.In s.heap) (hcd : clsIn K D = some cd) (hm : cd.mro = .ref D :: rest) (h1 : findIn K (.ref D) (PySem.dunder nr) = some none) (hr : findIn K (.ref D) (dunderR nr) = some (some (.ref f))) : Looks M s.heap (fillsNumberSlot (.ref D) nr) true := by
  intro A Q E s' k q
  unfold fillsNumberSlot
  refine wpAny_bind ((looks_clsIn X hcd).andThen (f := fun cd => pure cd.mro) .now A _ E s' k ?_)
  rw [hm, List.anyM_cons]
  refine wpAny_bind ?_
  show wpAny M A (List.anyM _ [PySem.dunder nr, dunderR nr]) _ _ _
  rw [List.anyM_cons]
  refine wpAny_bind (wpAny_bind (looks_findIn X h1 A _ E s' k ?_))
  dsimp only
  refine wpAny_pure ?_
  rw [if_neg (by decide), List.anyM_cons]
  refine wpAny_bind (wpAny_bind (looks_findIn X hr A _ E s' k ?_))
  dsimp only
  rw [if_pos (show (!ownNameWrapper (.ref f) (dunderR nr)) = true from rfl)]
  refine wpAny_pure ?_
  rw [if_pos rfl]
  refine wpAny_pure ?_
  rw [if_pos rfl]
  exact wpAny_pure q
/-- i * b by b's __rmul__ -/
theorem mix_rmul {i : Int} {t : Tok} {Q : Value → Shared → Prop} (F : Fr h₀ L s.heap m) (X₀ : K.In h₀) (J : InstAt s.heap y (instObj D dx) D oe) (hd : selfFirst K D = true) (h1 : findIn K (.ref D) (PySem.dunder "mul") = some none)
    (hr : findIn K (.ref D) (dunderR "mul") = some (some (.ref f))) (hf : isFn K (.ref f) = true) (hsub : subIn K (.ref D) (.type "int") = some false)
    (h : wpAny (model prog w) A (call (.ref f) [.ref y, .int i t]) (CmpBack Q) E s) : wpAny (model prog w) A (binaryOp .Mult (.int i t) (.ref y)) Q E s := by
  have X := X₀.keeps F.keep
  obtain ⟨dd, rest2, hdd, hm2⟩ := ksp_first hd
  have one := ksp_try X J hr hf h
  have no := int_mul_own (prog := prog) (w := w) (A := A) (E := E) (i := i) (t := t) (s := s) X J hsub (Q := fun v s' => v = .notImplemented ∧ s' = s) ⟨rfl, rfl⟩
  have L4 : Looks (model prog w) s.heap (fillsNumberSlot (.ref D) "mul") true := fills_R X hdd hm2 h1 hr
  obtain ⟨hh, gg, d, tt, os⟩ := s
  have L1 : Looks (model prog w) hh (typeOf (.int i t)) (.type "int") := Looks.of_pure rfl
  have L2 : Looks (model prog w) hh (typeOf (.ref y)) (.ref D) := J.type
  have L3 : Looks (model prog w) hh (fillsNumberSlot (.type "int") "mul") true := Looks.of_pure _root_.PySem.F.fills_int_mul
  have L5 : Looks (model prog w) hh (isSubtype (.ref D) (.type "int")) false := looks_subIn X hsub
  have L7 : Looks (model prog w) hh (numberSlotInPython (.type "int") "mul") false := Looks.of_pure rfl
  have L8 : Looks (model prog w) hh (typeLookup (.ref D) (dunderR "mul")) (some (.ref f)) := looks_findIn X hr
  have L9 : Looks (model prog w) hh (typeLookup (.ref D) (PySem.dunder "mul")) none := looks_findIn X h1
  have hne : (Value.type "int" == Value.ref D) = false := Bool.eq_false_iff.mpr fun q => by cases beq_iff_eq.mp q
  obtain ⟨sym, hi⟩ : ∃ sym, Operator.Mult.info = (sym, "mul") := ⟨_, rfl⟩
  simp only [binaryOp, hi]
  refine wpAny_holding (wpAny_bind ?_)
  unfold binaryOp1
  refine wpAny_bind (L1.at (wpAny_bind (L2.at (wpAny_bind (L3.at ?_)))))
  simp only [hne, Bool.false_eq_true, if_false]
  ksp_lk
  have ed : PySem.dunder "mul" = ("__mul__" : Str) := by decide +kernel
  rw [ed]
  refine wpAny_tryMethod_declines (T := "int") (name := "__mul__") (id := "int.__mul__") (typeIs_int _ i t) _root_.PySem.F.slot_int_mul ?_
  refine wpAny_mono no (fun v s' hv => ⟨hv.1, ?_⟩) fun _ _ e => e
  have hs' := hv.2
  subst hs'
  simp only [Bool.false_eq_true, if_false, Bool.not_false, Bool.and_self, if_true]
  refine wpAny_bind (wpAny_mono one (fun r s' hr' => ?_) fun _ _ e => e)
  obtain ⟨v, rfl, hq⟩ := hr'
  exact wpAny_bind (wpAny_rule (wpAny_pure (wpAny_pure hq)))
end
end PySem.W
namespace FsR
open PySem PySem.Spec PyProof.Rows L2 Evl
structure OpMix (K : PySem.W.Frag) (C D : Addr) (op : Operator) (g : Addr) : Prop where
  fst : PySem.W.selfFirst K C = true
  fst2 : PySem.W.selfFirst K D = true
  ne : C ≠ D
  at_ : PySem.W.findIn K (.ref C) (PySem.dunder op.info.2) = some (some (.ref g))
  fn : PySem.W.isFn K (.ref g) = true
  rv : PySem.W.findIn K (.ref C) (dunderR op.info.2) = some none
  at2 : ∃ g2 : Addr, PySem.W.findIn K (.ref D) (PySem.dunder op.info.2) = some (some (.ref g2))
  rv2 : PySem.W.findIn K (.ref D) (dunderR op.info.2) = some none
  sub : PySem.W.subIn K (.ref D) (.ref C) = some false
/-- a op b, a of C, b of D -/
def tOwnD (C D : Addr) (sp : Sp) (E : L2.St → XK) (ta tb : TE) : TE := fun σ H Q => ta σ H fun x H1 => tb σ H1 fun y H2 => ∃ (a b dx dy : Addr) (fs gs : List (Str × V)), x = .ref a ∧ y = .ref b ∧ H2 a = some (.ins C dx fs) ∧ H2 b = some (.ins D dy gs) ∧ sp [.ref a, .ref b] H2 Q (E σ)
theorem fin_own {X : Cx} {pins : List (Addr × Obj)} {σ : L2.St} {Q : VK} {w : Value} {s' : Shared} (h : EP X pins σ Q w s') : PySem.W.CmpBack (EP X pins σ Q) w s' := by
  obtain ⟨y, H', J, r, q'⟩ := h
  have fin : EP X pins σ Q w s' := ⟨y, H', J, r, q'⟩
  cases w with
  | notImplemented => exact no_notimpl r
  | _ => exact fin
section
variable {X : Cx} {CX : CXT} {k : Nat} {C D g : Addr} {fd : FuncData} {ps : List Str} {sp : Sp} {E : L2.St → XK} {ea eb : Expr} {op : Operator} {pos : Pos} {ta tb : TE}
theorem pe_ownD (ha : PE X ea ta) (hb : PE X eb tb) (M : OpMix X.K C D op g) (F : FnOk X.prog X.w X.K X.mg X.base CX k g fd ps sp) (hr : Room k X.A) (hd : Binds X.K fd ps []) (hx : ∀ σ, PassesAt CX X σ (E σ)) : PE X (.BinOp ea op eb pos) (tOwnD C D sp E ta tb) := by
  refine ⟨fun pins s σ H Q I h => wpAny_BinOp (binT ha hb I h fun v u s2 x y H2 I2 rx ry q => ?_)⟩
  obtain ⟨a, b, dx, dy, fs, gs, rfl, rfl, h1, h2, q⟩ := q
  obtain rfl : v = Value.ref a := rx
  obtain rfl : u = Value.ref b := ry
  obtain ⟨_, O1, _⟩ := ins_get I2.hok h1
  obtain ⟨_, O2, _⟩ := ins_get I2.hok h2
  obtain ⟨_, i1, _⟩ := O1.look
  obtain ⟨_, i2, _⟩ := O2.look
  obtain ⟨m, fr⟩ := I2.fr
  obtain ⟨g2, hg2⟩ := M.at2
  exact PySem.W.mix_bin fr I2.ok.mod.kin i1 i2 M.fst M.fst2 M.ne M.at_ M.fn M.rv hg2 M.rv2 M.sub (wpAny_mono (run_fnS (us := [.ref a, .ref b]) (vs := [.ref a, .ref b]) F hr hd (hx σ) I2 (.cons rfl (.cons rfl .nil)) q) (fun w s' hw => fin_own hw) fun _ _ z => z)
structure RmM (K : PySem.W.Frag) (D g : Addr) : Prop where
  fst : PySem.W.selfFirst K D = true
  no : PySem.W.findIn K (.ref D) (PySem.dunder "mul") = some none
  at_ : PySem.W.findIn K (.ref D) (dunderR "mul") = some (some (.ref g))
  fn : PySem.W.isFn K (.ref g) = true
  sub : PySem.W.subIn K (.ref D) (.type "int") = some false
/-- i * b -/
def tRmul (D : Addr) (sp : Sp) (E : L2.St → XK) (ta tb : TE) : TE := fun σ H Q => ta σ H fun x H1 => tb σ H1 fun y H2 => ∃ (i : Int) (b dy : Addr) (gs : List (Str × V)), x = .int i ∧ y = .ref b ∧ H2 b = some (.ins D dy gs) ∧ sp [.ref b, .int i] H2 Q (E σ)
theorem pe_rmul (ha : PE X ea ta) (hb : PE X eb tb) (M : RmM X.K D g) (F : FnOk X.prog X.w X.K X.mg X.base CX k g fd ps sp) (hr : Room k X.A) (hd : Binds X.K fd ps []) (hx : ∀ σ, PassesAt CX X σ (E σ)) : PE X (.BinOp ea .Mult eb pos) (tRmul D sp E ta tb) := by
  refine ⟨fun pins s σ H Q I h => wpAny_BinOp (binT ha hb I h fun v u s2 x y H2 I2 rx ry q => ?_)⟩
  obtain ⟨i, b, dy, gs, rfl, rfl, h2, q⟩ := q
  obtain ⟨t, rfl⟩ := rx
  obtain rfl : u = Value.ref b := ry
  obtain ⟨_, O2, _⟩ := ins_get I2.hok h2
  obtain ⟨_, i2, _⟩ := O2.look
  obtain ⟨m, fr⟩ := I2.fr
  exact PySem.W.mix_rmul fr I2.ok.mod.kin i2 M.fst M.no M.at_ M.fn M.sub (wpAny_mono (run_fnS (us := [.ref b, .int i t]) (vs := [.ref b, .int i]) F hr hd (hx σ) I2 (.cons rfl (.cons ⟨t, rfl⟩ .nil)) q) (fun w s' hw => fin_own hw) fun _ _ z => z)
structure InM (K : PySem.W.Frag) (C : Addr) (op : Operator) (g : Addr) : Prop where
  fst : PySem.W.selfFirst K C = true
  at_ : PySem.W.findIn K (.ref C) (dunderI op.info.2) = some (some (.ref g))
  fn : PySem.W.isFn K (.ref g) = true
/-- x op= e, x's class defines it -/
def tAugO (C : Addr) (sp : Sp) (E : L2.St → XK) (i : Nat) (te : TE) : TS := fun D σ H => ∃ x, σ[i]? = some (some x) ∧ te σ H fun y H1 => ∃ (a dx : Addr) (fs : List (Str × V)), x = .ref a ∧ H1 a = some (.ins C dx fs) ∧ sp [.ref a, y] H1 (fun z H2 => D.nx (σ.set i (some z)) H2) (E σ)
theorem ps_augO {i : Nat} {x : Str} {e : Expr} {te : TE} {pos' : Pos} (hN : X.N.Nodup) (hi : X.N[i]? = some x) (hx : Loc X.env.scope x) (he : PE X e te) (M : InM X.K C op g) (F : FnOk X.prog X.w X.K X.mg X.base CX k g fd ps sp) (hr : Room k X.A) (hd : Binds X.K fd ps []) (hp : ∀ σ, PassesAt CX X σ (E σ))
    (hf : X.fn x = true ∨ X.env.scope.names.lookup x = some .local := by first | exact .inl rfl | exact .inr rfl | assumption) : PS X (.AugAssign (.Name x pos') op e pos) (tAugO C sp E i te) := by
  refine ⟨fun pins s σ H D I h => ?_⟩
  obtain ⟨v, e1, h⟩ := h
  obtain ⟨m, hn, hl⟩ := I.loc
  have vis : Vis X.env.scope x := hx.elim .inl fun k => .inr (.inl k)
  obtain ⟨u, r, l⟩ := hl i x v hi e1 vis
  refine wpAny_AugAssign_Name ?_
  have go : wpAny (model X.prog X.w) X.A (eval e X.env) (fun w s₂ => wpAny (model X.prog X.w) X.A (inplaceOp op u w) (fun r s₃ => wpAny (model X.prog X.w) X.A (storeName X.env x r) (fun _ => SP X pins D .next) X.xe s₃) X.xe s₂) X.xe s := by
    refine thn (he.run pins s σ H _ I h) fun w s1 ⟨y, H1, I1, r1, a, dx, fs, ex, h1, q⟩ => ?_
    subst ex
    obtain rfl : u = Value.ref a := r
    obtain ⟨_, O1, _⟩ := ins_get I1.hok h1
    obtain ⟨_, i1, _⟩ := O1.look
    obtain ⟨m1, fr⟩ := I1.fr
    refine thn (PySem.W.ksp_inplace (Q := EP X pins σ fun z H2 => D.nx (σ.set i (some z)) H2) fr I1.ok.mod.kin i1 M.fst M.at_ M.fn (wpAny_mono (run_fnS (us := [.ref a, w]) (vs := [.ref a, y]) F hr hd (hp σ) I1 (.cons rfl (.cons r1 .nil)) q) (fun w s' hw => fin_own hw) fun _ _ z => z)) fun z s2 ⟨zv, H2, I2, r2, q2⟩ => ?_
    exact store_ok I2 hN hi hx r2 (fun s3 I3 => ⟨_, H2, I3, q2⟩) hf
  rcases l with ⟨hk, hm⟩ | ⟨hk, c, hc, hcell⟩
  · exact wpAny_loadName_local I.ok.kind hk hn hm go
  · rcases hk with hk | hk
    · exact wpAny_loadName_cell I.ok.kind hk hc hcell go
    · have hk' : X.env.scope.names.lookup x = some .free := hk
      rcases hx with z | z <;> (rw [hk'] at z; cases z)
end
end FsR

set_option Elab.async false
set_option linter.all false
set_option maxRecDepth 100000
set_option maxHeartbeats 2000000
/-! a class made by its name within an except suite -/
namespace FsH
open PySem PySem.Spec PyProof.Rows L2 L2H HotX
theorem roomH_make {k : Nat} {A : Around} (r : RoomH (k + 1) A) (C : Addr) (us : List Value) (kw : List (Str × Value)) : RoomH k (A.under (.builtin "type.__call__" ⟨.ref C :: us, kw⟩)) :=
  ⟨by have := r.dp; rw [make_depth]; omega, by have := r.un; rw [make_units]; omega⟩
section
variable {X : Cx} {CX : CXT} {k : Nat} {f C : Addr} {fd : FuncData} {ps : List Str} {sp : Sp} {E : XK} {x : Str} {p pos : Pos} {e : Expr} {es : List Expr} {t : TA}
theorem run_makeH {pins : List (Addr × Obj)} {σ : L2.St} {H : Hp} {s : Shared} {Q : VK} {us : List Value} {vs : List V} (M : Mk X.K C f) (F : FnH X.prog X.w X.K X.mg X.base CX k f fd ps sp) (hr : RoomH (k + 1) X.A) (hc : HotC X) (hb : Binds X.K fd ps [])
    (hx : Passes CX X E) (I : Inv X pins σ H s) (r : Vals vs us)
    (h : ∀ x dx, H x = none → H dx = none → dx ≠ x → sp (.ref x :: (vs ++ [])) (upd (upd H dx (.own x)) x (.ins C dx [])) (fun v H2 => v = .non ∧ Q (.ref x) H2) E) :
    wpAny (model X.prog X.w) X.A (call (.ref C) us) (EP X pins σ Q) X.xe s := by
  obtain ⟨q, hot, hp⟩ := hc
  have hq := h (s.heap.objs.size + 1) s.heap.objs.size (I.hok.fresh (Nat.le_succ _)) (I.hok.fresh (Nat.le_refl _)) (Nat.ne_of_lt (Nat.lt_succ_self _))
  have I2 := Inv.made (C := C) I
  have r2 : Vals (V.ref (s.heap.objs.size + 1) :: (vs ++ [])) (Value.ref (s.heap.objs.size + 1) :: us) := .cons rfl (by rw [List.append_nil]; exact r)
  have hl : (Value.ref (s.heap.objs.size + 1) :: us).length = ps.length := by
    have e := r2.length
    rw [F.len _ _ _ _ hq] at e
    exact e.symm
  have b := hb _ (Value.ref (s.heap.objs.size + 1) :: us) I2.kIn (by rw [List.append_nil]; exact hl)
  rw [List.append_nil] at b
  have P1 := I2.pin q (List.mem_append_left _ hp)
  have hpin : PinOk X.stack _ _ q := ⟨P1.1, P1.2.1, fun hm => (List.mem_cons.mp (I2.stkSub q.1 hm)).elim P1.2.2.1 P1.2.2.2.1, P1.2.2.2.2⟩
  refine wpAny_call (make_map (f := f) I.kIn M.makes M.init (beq_iff_eq.mp M.fn) (codeAny_mono (F.run _ X.stack _ _ ⟨Value.ref (s.heap.objs.size + 1) :: us, []⟩ (Value.ref (s.heap.objs.size + 1) :: us) _ _ E q (roomH_make hr C us []) hot hpin
    (I2.env0.make C us []) b r2 hq) fun r s' hq' => ?_))
  cases r with
  | error e => exact hx pins σ _ _ e s' I2 hq'
  | ok fl =>
    cases fl with
    | ret u =>
      obtain ⟨v, H', I3, rv, ev, q3⟩ := I2.after hq'
      subst ev
      exact ⟨rv, ⟨V.ref (s.heap.objs.size + 1), H', I3, rfl, q3⟩⟩
    | next => exact False.elim hq'
    | brk => exact False.elim hq'
    | cont => exact False.elim hq'
theorem pe_makeH (M : Mk X.K C f) (F : FnH X.prog X.w X.K X.mg X.base CX k f fd ps sp) (hr : RoomH (k + 1) X.A) (hc : HotC X) (hg : Gl X x) (hm : X.mg x = some (.ref C)) (hb : Binds X.K fd ps []) (hx : Passes CX X E)
    (ha : PA X (e :: es) t) (hdb : (x == ("__debug__" : Str)) = false := by decide) (he : starEach (e :: es) X.env = (false, eval e X.env) :: starEach es X.env := by rfl) (hpl : (backTo pos (starEach es X.env)).any (·.1) = false := by rfl) :
    PE X (.Call (.Name x p) (e :: es) [] pos) (tMake C sp [] E t) := by
  refine ⟨fun pins s σ H Q I h => ?_⟩
  refine wpAny_Call_Name_kw (ld_glob I hg hm ?_ hdb)
  refine PySem.W.callWith_K (h₀ := X.base) I.ok.mod.kin M.kp (thn (ha.run pos pins s σ H _ I h) fun us s1 ⟨vs, H1, I1, r, q⟩ => ⟨I1.kIn, ?_⟩) he hpl
  exact run_makeH M F hr hc hb hx I1 r q
end
section
variable {P : Program} {w : World} {K : PySem.W.Frag} {mg : Str → Option Value} {base : Heap}
/-- as Fun.ok, for a def that is called within an except suite -/
theorem okH {x qual : Str} {st : Stmt} {f : Addr} {fd : FuncData} {N ps : List Str} {k : Nat} {sp : Sp} (F : Fun K x qual st f fd) (S : FnScope N ps (defScope st)) (len : ∀ vs H Q E, sp vs H Q E → vs.length = ps.length)
    (hbody : ∀ (cdv : Value) (A : Around) (outer : List Env) (s : Shared) (H : Hp) (vs : List V) (Q : VK) (E : XK) (p : Addr × Obj), HotC (cxH CX0 P w K mg base N qual (defScope st) f cdv A outer s H E p) → RoomH k (A.deeper (envOfC qual (defScope st) s.heap.objs.size f cdv)) → sp vs H Q E →
      ∃ t, PSs (cxH CX0 P w K mg base N qual (defScope st) f cdv A outer s H E p) (defBody st) t ∧ t { nx := fun _ H' => Q .non H', rt := Q } (L2.start N vs) H) : FnH P w K mg base CX0 (k + 1) f fd ps sp := by
  obtain ⟨oc, od, kV, doc, pm, an, cdv, ct, osl, rfl, lk, hcd⟩ := F.ex
  exact fn_ofH lk hcd S len fun A outer s H vs Q E p hot hr hsp => hbody cdv A outer s H vs Q E p ⟨p, hot, List.mem_singleton.mpr rfl⟩ hr hsp
/-- X's context within a suite bears the handled exception -/
theorem hot_suite {X : Cx} {a : Addr} {oe : Obj} {cls : Value} {d : Option Addr} {pn : List (Addr × Obj)} (h : L2N.Zn cls d oe) (hv : ∃ vs, oe.data = .fields vs) : HotC (X.suite a ((a, oe) :: pn)) := by
  obtain ⟨vs, e⟩ := hv
  exact ⟨(a, oe), ⟨rfl, vs, e, h.2.2 vs e⟩, List.mem_cons_self ..⟩
end
end FsH

set_option Elab.async false
set_option linter.all false
set_option maxRecDepth 100000
set_option maxHeartbeats 8000000
/-! the law's tries: one | two, many * one -/
namespace Fs
open PySem L2 Evl FsE FsC FsR FsA FsQ FsK
structure ErrT (K : PySem.W.Frag) (mg : Str → Option Value) (CB : Addr) : Prop where
  gB : mg "BadTerm" = some (.ref CB)
  xf : XfC K CB
  no : PySem.W.findIn K (.ref CB) "field" = some none
  te : PySem.W.exmOne K (.ref CB) (.ref CB) = some true
/-- (net, "") or (anything, "machines") -/
structure Tried (N : Addr) (zs : List V) (H : Hp) (Q : VK) : Prop where
  ok : zs.length ≤ 6 → ∀ t r H', H t = none → H r = none → Ex H H' → H' t = some (.tup [.ref r, .str ""]) → NtAt N H' r zs → Q (.ref t) H'
  bad : 6 < zs.length → ∀ t r H', H t = none → Ex H H' → H' t = some (.tup [.ref r, .str "machines"]) → Q (.ref t) H'
section
variable {σ : L2.St} {H : Hp} {te : TE} {K : PySem.W.Frag} {N CB : Addr} {xs : List V} {E : XK}
theorem s_cons {ta : TE} {tr : TA} {Q : List V → Hp → Prop} (h : ta σ H fun x H1 => tr σ H1 fun vs H2 => Q (x :: vs) H2) : tCons ta tr σ H Q := h
theorem mk_net {Q : VK} (h : EvSeq K te σ H xs) (hz : xs.length ≤ 6) (k : ∀ r H', H r = none → Ex H H' → NtAt N H' r xs → Q (.ref r) H') : tMake N (spNtInit K N CB) [] E (tCons te tNil) σ H Q :=
  h H (Ex.refl H) _ fun p H2 e2 hp => fun x dx hx hdx hne => by
    have x0 : Ex H2 (upd (upd H2 dx (.own x)) x (.ins N dx [])) := by
      intro b o hb
      rw [upd_ne (ne_of_none hb hx), upd_ne (ne_of_none hb hdx)]
      exact hb
    exact ⟨x, dx, p, xs, H2, rfl, upd_same, hx, x0, hp, fun z H' e' hr => ⟨rfl, k x H' (fresh_back e2 hx) (e2.trans e') hr⟩, fun z => by omega⟩
end
section
variable {P : Program} {w : World} {K : PySem.W.Frag} {mg : Str → Option Value} {base : Heap} {C N CB : Addr}
/-- the four strokes -/
structure NetO (P : Program) (w : World) (K : PySem.W.Frag) (mg : Str → Option Value) (base : Heap) (C N CB : Addr) (k : Nat) : Prop where
  ex : ∃ (gN gC : Addr) (fN fC : FuncData), OpM K N .BitOr gN ∧ OpM K C .BitOr gC ∧ OpMix K N C .BitOr gN ∧ OpMix K C N .BitOr gC ∧ FnOk P w K mg base (L2N.CX P w) k gN fN ["self", "other"] (spNtOr C N CB) ∧ FnOk P w K mg base (L2N.CX P w) k gC fC ["self", "other"] (spPrOr C N CB) ∧ Binds K fN ["self", "other"] [] ∧ Binds K fC ["self", "other"] []
/-- n * net, n * process -/
structure NetM (P : Program) (w : World) (K : PySem.W.Frag) (mg : Str → Option Value) (base : Heap) (C N CB : Addr) (k : Nat) : Prop where
  ex : ∃ (gN gC : Addr) (fN fC : FuncData), RmM K N gN ∧ RmM K C gC ∧ FnOk P w K mg base (L2N.CX P w) k gN fN ["self", "other"] (spNtMul C N CB) ∧ FnOk P w K mg base (L2N.CX P w) k gC fC ["self", "other"] (spPrMul C N CB) ∧ Binds K fN ["self", "other"] [] ∧ Binds K fC ["self", "other"] []
/-- what an expression gives: a new net or the refusal -/
def EvNt (N CB : Addr) (te : TE) (σ : L2.St) (H : Hp) (E : XK) (zs : List V) : Prop := ∀ Q : VK, NtMade N CB zs H Q E → te σ H Q
def spJoined (C N : Addr) : Sp := fun vs H Q _ => ∃ (a b : Addr) (xs ys : List V), vs = [.ref a, .ref b] ∧ MbAt C N H a xs ∧ MbAt C N H b ys ∧ xs.length ≤ 40 ∧ ys.length ≤ 40 ∧ Tried N (xs ++ ys) H Q
theorem scJoined : FnScope ["_law_one", "_law_two", "e"] ["_law_one", "_law_two"] (defScope (topS 38)) := ⟨rfl, rfl, rfl, by decide +kernel, rfl, by decide +kernel, by decide +kernel⟩
/-- a | b by who they are -/
theorem or_te {k i j : Nat} (O : NetO P w K mg base C N CB k) {H : Hp} {a b : Addr} {xs ys : List V} (hA : MbAt C N H a xs) (hB : MbAt C N H b ys) (lx : xs.length ≤ 40) (ly : ys.length ≤ 40) :
    ∃ tf : (L2.St → XK) → TE, (∀ (X : Cx) (E : L2.St → XK) (ea eb : Expr) (pos : Pos), X.prog = P → X.w = w → X.K = K → X.mg = mg → X.base = base → Room k X.A → PE X ea (tVar i) → PE X eb (tVar j) → (∀ σ, PassesAt (L2N.CX P w) X σ (E σ)) → PE X (.BinOp ea .BitOr eb pos) (tf E)) ∧
      ∀ (E : L2.St → XK) (σ : L2.St), σ[i]? = some (some (.ref a)) → σ[j]? = some (some (.ref b)) → EvNt N CB (tf E) σ H (E σ) (xs ++ ys) := by
  obtain ⟨gN, gC, fN, fC, MN, MC, MNC, MCN, FN, FC, BN, BC⟩ := O.ex
  rcases hA with hn | ⟨⟨p, hp⟩, rfl⟩
  · obtain ⟨dx, t, h1, h2⟩ := id hn
    rcases hB with hm | ⟨⟨p', hp'⟩, rfl⟩
    · obtain ⟨dy, t', g1, g2⟩ := id hm
      refine ⟨fun E => tOwn N (spNtOr C N CB) E (tVar i) (tVar j), fun X E ea eb pos e1 e2 e3 e4 e5 hr ha hb hx => ?_, fun E σ si sj Q md => ⟨_, si, _, sj, a, b, dx, dy, _, _, rfl, rfl, h1, g1, a, b, xs, ys, rfl, hn, .inl hm, lx, ly, md⟩⟩
      subst e1 e2 e3 e4 e5
      exact pe_own ha hb MN FN hr BN hx
    · obtain ⟨t', ps', ⟨dy, g1⟩, _⟩ := hp'.out
      refine ⟨fun E => tOwnD N C (spNtOr C N CB) E (tVar i) (tVar j), fun X E ea eb pos e1 e2 e3 e4 e5 hr ha hb hx => ?_, fun E σ si sj Q md => ⟨_, si, _, sj, a, b, dx, dy, _, _, rfl, rfl, h1, g1, a, b, xs, _, rfl, hn, .inr ⟨⟨p', hp'⟩, rfl⟩, lx, ly, md⟩⟩
      subst e1 e2 e3 e4 e5
      exact pe_ownD ha hb MNC FN hr BN hx
  · obtain ⟨t, ps, ⟨dx, h1⟩, _⟩ := hp.out
    rcases hB with hm | ⟨⟨p', hp'⟩, rfl⟩
    · obtain ⟨dy, t', g1, g2⟩ := id hm
      refine ⟨fun E => tOwnD C N (spPrOr C N CB) E (tVar i) (tVar j), fun X E ea eb pos e1 e2 e3 e4 e5 hr ha hb hx => ?_, fun E σ si sj Q md => ⟨_, si, _, sj, a, b, dx, dy, _, _, rfl, rfl, h1, g1, a, b, p, ys, rfl, hp, .inl hm, ly, md⟩⟩
      subst e1 e2 e3 e4 e5
      exact pe_ownD ha hb MCN FC hr BC hx
    · obtain ⟨t', ps', ⟨dy, g1⟩, _⟩ := hp'.out
      refine ⟨fun E => tOwn C (spPrOr C N CB) E (tVar i) (tVar j), fun X E ea eb pos e1 e2 e3 e4 e5 hr ha hb hx => ?_, fun E σ si sj Q md => ⟨_, si, _, sj, a, b, dx, dy, _, _, rfl, rfl, h1, g1, a, b, p, _, rfl, hp, .inr ⟨⟨p', hp'⟩, rfl⟩, ly, md⟩⟩
      subst e1 e2 e3 e4 e5
      exact pe_own ha hb MC FC hr BC hx
/-- the handler: (Net([]), e.field) -/
abbrev tsNt (K : PySem.W.Frag) (N CB : Addr) (i : Nat) : Addr → Value → Option Addr → TS := fun a cls d => tRet (tTup (tCons (tMake N (spNtInit K N CB) [] E0 (tCons (tLst tNil) tNil)) (tCons (tXf a cls d CB "field" (tVar i)) tNil)))
theorem takes0N {X : Cx} : L2N.Takes X (fun _ _ _ _ => False) := fun _ _ x => by
  obtain ⟨_, _, _, _, _, _, _, _, _, _, _, _, _, _, _, _, z⟩ := x
  exact z.elim
/-- demand(True, ..) within a suite -/
def spDemT : Sp := fun vs H Q _ => ∃ f : Str, vs = [.bl true, .str f] ∧ RetV .non H Q
theorem okH_demand {f : Addr} {fd : FuncData} (F : Fun K "demand" "demand" (topS 23) f fd) : L2H.FnH P w K mg base CX0 1 f fd ["allowed", "field"] spDemT := by
  refine FsH.okH F scDemand (fun vs H Q E h => ?_) (fun cdv A outer s H vs Q E p hc hr h => ?_)
  · obtain ⟨z, rfl, _⟩ := h
    rfl
  · obtain ⟨z, rfl, k1⟩ := h
    refine ⟨_, pss_one (ps_if (pt_not (pt_val (pv 0))) pss_never pss_nil), ?_⟩
    exact s_if (b := false) (et_is (et_not (et_B (b := true) (ev_var rfl))) rfl) (fun hb => nomatch hb) (fun hb H1 e1 => k1 H1 e1)
/-- Net(..) within a suite, of few enough -/
def spNtInitH (K : PySem.W.Frag) (N : Addr) : Sp := fun vs H Q _ => ∃ (a dx l : Addr) (xs : List V) (H0 : Hp), vs = [.ref a, .ref l] ∧ H a = some (.ins N dx []) ∧ H0 a = none ∧ Ex H0 H ∧ SqA K H0 l xs ∧ xs.length ≤ 6 ∧ ∀ H', Ex H0 H' → NtAt N H' a xs → Q .non H'
theorem okH_ntinit {f fD : Addr} {fd fdD : FuncData} (F : Fun K "__init__" "Net.__init__" (inClass (topS 28) 0) f fd) (T : NetT K mg C N) (FD : L2H.FnH P w K mg base CX0 1 fD fdD ["allowed", "field"] spDemT) (mD : mg "demand" = some (.ref fD)) (kD : PySem.W.keepIn K (.ref fD) = true) (BD : Binds K fdD ["allowed", "field"] []) : L2H.FnH P w K mg base CX0 2 f fd ["self", "processes"] (spNtInitH K N) := by
  refine FsH.okH F scNtInit (fun vs H Q E h => ?_) (fun cdv A outer s H vs Q E p hc hr h => ?_)
  · obtain ⟨a, dx, l, xs, H0, rfl, _⟩ := h
    rfl
  · obtain ⟨a, dx, l, xs, H0, rfl, ha, hna, e0, hl, hz, q1⟩ := h
    refine ⟨_, pss_cons (ps_expr (L2H.pe_callH (E := fun _ => E0) FD hr hc (by rfl) mD kD BD at0 (pa_cons (pe_cmpR op_le (pe_callB call_len_seq (by rfl) T.len PySem.boot_len (pa_cons (pv 1) pa_nil)) (C8.pe_gc (by rfl) T.most) (nomark _)) (pa_cons pe_str pa_nil))))
      (pss_one (ps_fld (pv 0) (pe_callTy call_tuple_of (by rfl) T.tuple (by decide +kernel) (pa_cons (pv 1) pa_nil)) rfl)), ?_⟩
    refine q_drop (v := .non) (ev_cx (ea_cons (ev_is (ev_op (ev_lenA (K := K) (ev_var rfl) (hl.ex e0)) ev_c rv_I0) (by rw [decide_eq_true (show (xs.length : Int) ≤ 6 by omega)])) (ea_cons ev_c ea_nil)) (fun H1 e1 Q' q' E' => ⟨"machines", rfl, q'⟩)) (fun H1 e1 => ?_)
    refine s_fldQ (xs := xs) (eq_tup (ev_var rfl) ((hl.ex e0).ex e1)) (fun H2 e2 => ev_var rfl) (e1 _ _ ha) T.cl T.nM (by show 0 < 1000; decide) (fun t H2 ht e2 h2 => ?_)
    exact q1 _ (Ex.mut ((e0.trans e1).trans e2) hna) ⟨dx, t, upd_same, by rw [upd_ne ht]; exact h2⟩
theorem mk_netH {σ : L2.St} {H : Hp} {te : TE} {xs : List V} {E : XK} {Q : VK} (h : EvSeq K te σ H xs) (hz : xs.length ≤ 6) (k : ∀ r H', H r = none → Ex H H' → NtAt N H' r xs → Q (.ref r) H') : tMake N (spNtInitH K N) [] E (tCons te tNil) σ H Q :=
  h H (Ex.refl H) _ fun p H2 e2 hp => fun x dx hx hdx hne => by
    have x0 : Ex H2 (upd (upd H2 dx (.own x)) x (.ins N dx [])) := by
      intro b o hb
      rw [upd_ne (ne_of_none hb hx), upd_ne (ne_of_none hb hdx)]
      exact hb
    exact ⟨x, dx, p, xs, H2, rfl, upd_same, hx, x0, hp, hz, fun H' e' hr => ⟨rfl, k x H' (fresh_back e2 hx) (e2.trans e') hr⟩⟩
/-- Net within a suite -/
structure NetH (P : Program) (w : World) (K : PySem.W.Frag) (mg : Str → Option Value) (base : Heap) (N : Addr) : Prop where
  ex : ∃ (f : Addr) (fd : FuncData), Mk K N f ∧ L2H.FnH P w K mg base CX0 2 f fd ["self", "processes"] (spNtInitH K N) ∧ mg "Net" = some (.ref N) ∧ Binds K fd ["self", "processes"] []
/-- the handler: (Net([]), e.field) -/
abbrev tsNtH (K : PySem.W.Frag) (N CB : Addr) (i : Nat) : Addr → Value → Option Addr → TS := fun a cls d => tRet (tTup (tCons (tMake N (spNtInitH K N) [] E0 (tCons (tLst tNil) tNil)) (tCons (tXf a cls d CB "field" (tVar i)) tNil)))
theorem room_mark {k : Nat} {A : Around} {v : Option Value} (r : Room k A) : L2H.RoomH k (A.mark v) := ⟨r.dp, r.un⟩
theorem ok_joined {f : Addr} {fd : FuncData} {k : Nat} (hk : 2 ≤ k) (F : Fun K "_law_joined" "_law_joined" (topS 38) f fd) (O : NetO P w K mg base C N CB (k + 1)) (NH : NetH P w K mg base N) (R : ErrT K mg CB) : FnOk P w K mg base CX0 (k + 2) f fd ["_law_one", "_law_two"] (spJoined C N) := by
  refine F.ok scJoined (fun vs H Q E h => ?_) (fun cdv A outer s H vs Q E hr h => ?_)
  · obtain ⟨a, b, xs, ys, rfl, _⟩ := h
    rfl
  · obtain ⟨a, b, xs, ys, rfl, ha, hb, lx, ly, q⟩ := h
    obtain ⟨tf, TE1, TV⟩ := or_te (i := 0) (j := 1) O ha hb lx ly
    obtain ⟨fN, fdN, MN, FN, mN, BN⟩ := NH.ex
    refine ⟨_, pss_one (L2N.ps_try_as (i := 2) (tb := fun W => tRet (tTup (tCons (tf (WE W)) (tCons (tC (.str "")) tNil)))) (ts := tsNtH K N CB 2) (Wout := fun _ _ _ _ => False) rfl rfl scJoined.nd rfl rfl ⟨rfl, by decide, Or.inl R.gB⟩ (takes0N)
          (fun W pn xe tk _ => pss_one (ps_ret (by exact (pe_tup (pa_cons (TE1 _ _ _ _ _ rfl rfl rfl rfl rfl hr (pv 0) (pv 1) (fun σ => L2N.passAt tk σ)) (pa_cons pe_str pa_nil))))))
          (fun a oe cls d pn hz hf => pss_one (ps_ret (by exact (pe_tup (pa_cons (FsH.pe_makeH (E := E0) MN FN ((room_mark hr).mono (by omega)) (FsH.hot_suite hz hf) (by rfl) mN BN pass0 (pa_cons (pe_lst pa_nil) pa_nil)) (pa_cons (pe_xf R.xf R.no hz.zc hf (pv 2)) pa_nil))))))), ?_⟩
    refine TV _ _ rfl rfl _ ⟨fun hz r H9 hr9 e9 h9 => ?_, fun hz d H9 e9 hd h9 => ?_⟩
    · exact ⟨by show 2 ≤ sizeLine; decide, fun t ht => q.ok hz t r _ (fresh_back e9 ht) hr9 (e9.trans (Ex.new ht)) upd_same (h9.ex (Ex.new ht))⟩
    · refine ⟨true, R.te, fun _ a0 ha0 => ?_, fun hq => nomatch hq⟩
      unfold tsNtH tRet tTup
      refine s_cons (mk_netH (K := K) (xs := []) (eq_l (el_lst ea_nil (by show 0 ≤ 100000; decide))) (by show 0 ≤ 6; decide) (fun r H10 hr10 e10 h10 => ?_))
      exact ⟨_, rfl, rfl, rfl, d, _, .str "machines", rfl, e10 _ _ h9, rfl, by show 2 ≤ sizeLine; decide, fun t ht => q.bad hz t r _ (fresh_back (e9.trans e10) ht) ((e9.trans e10).trans (Ex.new ht)) upd_same⟩
end
end Fs

set_option Elab.async false
set_option linter.all false
set_option maxRecDepth 100000
set_option maxHeartbeats 8000000
/-! the law's tries: many * one, net |= other -/
namespace Fs
open PySem L2 Evl FsE FsC FsR FsA FsQ FsK
section
variable {P : Program} {w : World} {K : PySem.W.Frag} {mg : Str → Option Value} {base : Heap} {C N CB : Addr}
def spTimes (C N : Addr) : Sp := fun vs H Q _ => ∃ (k : Int) (a : Addr) (xs : List V), vs = [.int k, .ref a] ∧ MbAt C N H a xs ∧ xs.length ≤ 40 ∧ Tried N (reps k xs) H Q
theorem scTimes : FnScope ["_law_many", "_law_one", "e"] ["_law_many", "_law_one"] (defScope (topS 39)) := ⟨rfl, rfl, rfl, by decide +kernel, rfl, by decide +kernel, by decide +kernel⟩
theorem mul_te {k i j : Nat} (O : NetM P w K mg base C N CB k) {H : Hp} {n : Int} {a : Addr} {xs : List V} (hA : MbAt C N H a xs) (lx : xs.length ≤ 40) :
    ∃ tf : (L2.St → XK) → TE, (∀ (X : Cx) (E : L2.St → XK) (ea eb : Expr) (pos : Pos), X.prog = P → X.w = w → X.K = K → X.mg = mg → X.base = base → Room k X.A → PE X ea (tVar i) → PE X eb (tVar j) → (∀ σ, PassesAt (L2N.CX P w) X σ (E σ)) → PE X (.BinOp ea .Mult eb pos) (tf E)) ∧
      ∀ (E : L2.St → XK) (σ : L2.St), σ[i]? = some (some (.int n)) → σ[j]? = some (some (.ref a)) → EvNt N CB (tf E) σ H (E σ) (reps n xs) := by
  obtain ⟨gN, gC, fN, fC, MN, MC, FN, FC, BN, BC⟩ := O.ex
  rcases hA with hn | ⟨⟨p, hp⟩, rfl⟩
  · obtain ⟨dx, t, h1, h2⟩ := id hn
    refine ⟨fun E => tRmul N (spNtMul C N CB) E (tVar i) (tVar j), fun X E ea eb pos e1 e2 e3 e4 e5 hr ha hb hx => ?_, fun E σ si sj Q md => ⟨_, si, _, sj, n, a, dx, _, rfl, rfl, h1, a, n, xs, rfl, hn, lx, md⟩⟩
    subst e1 e2 e3 e4 e5
    exact pe_rmul ha hb MN FN hr BN hx
  · obtain ⟨t, ps, ⟨dx, h1⟩, _⟩ := hp.out
    refine ⟨fun E => tRmul C (spPrMul C N CB) E (tVar i) (tVar j), fun X E ea eb pos e1 e2 e3 e4 e5 hr ha hb hx => ?_, fun E σ si sj Q md => ⟨_, si, _, sj, n, a, dx, _, rfl, rfl, h1, a, n, rfl, md⟩⟩
    subst e1 e2 e3 e4 e5
    exact pe_rmul ha hb MC FC hr BC hx
theorem ok_times {f : Addr} {fd : FuncData} {k : Nat} (hk : 2 ≤ k) (F : Fun K "_law_times" "_law_times" (topS 39) f fd) (O : NetM P w K mg base C N CB (k + 1)) (NH : NetH P w K mg base N) (R : ErrT K mg CB) : FnOk P w K mg base CX0 (k + 2) f fd ["_law_many", "_law_one"] (spTimes C N) := by
  refine F.ok scTimes (fun vs H Q E h => ?_) (fun cdv A outer s H vs Q E hr h => ?_)
  · obtain ⟨n, a, xs, rfl, _⟩ := h
    rfl
  · obtain ⟨n, a, xs, rfl, ha, lx, q⟩ := h
    obtain ⟨tf, TE1, TV⟩ := mul_te (i := 0) (j := 1) (n := n) O ha lx
    obtain ⟨fN, fdN, MN, FN, mN, BN⟩ := NH.ex
    refine ⟨_, pss_one (L2N.ps_try_as (i := 2) (tb := fun W => tRet (tTup (tCons (tf (WE W)) (tCons (tC (.str "")) tNil)))) (ts := tsNtH K N CB 2) (Wout := fun _ _ _ _ => False) rfl rfl scTimes.nd rfl rfl ⟨rfl, by decide, Or.inl R.gB⟩ (takes0N)
          (fun W pn xe tk _ => pss_one (ps_ret (by exact (pe_tup (pa_cons (TE1 _ _ _ _ _ rfl rfl rfl rfl rfl hr (pv 0) (pv 1) (fun σ => L2N.passAt tk σ)) (pa_cons pe_str pa_nil))))))
          (fun a oe cls d pn hz hf => pss_one (ps_ret (by exact (pe_tup (pa_cons (FsH.pe_makeH (E := E0) MN FN ((room_mark hr).mono (by omega)) (FsH.hot_suite hz hf) (by rfl) mN BN pass0 (pa_cons (pe_lst pa_nil) pa_nil)) (pa_cons (pe_xf R.xf R.no hz.zc hf (pv 2)) pa_nil))))))), ?_⟩
    refine TV _ _ rfl rfl _ ⟨fun hz r H9 hr9 e9 h9 => ?_, fun hz d H9 e9 hd h9 => ?_⟩
    · exact ⟨by show 2 ≤ sizeLine; decide, fun t ht => q.ok hz t r _ (fresh_back e9 ht) hr9 (e9.trans (Ex.new ht)) upd_same (h9.ex (Ex.new ht))⟩
    · refine ⟨true, R.te, fun _ a0 ha0 => ?_, fun hq => nomatch hq⟩
      unfold tsNtH tRet tTup
      refine s_cons (mk_netH (K := K) (xs := []) (eq_l (el_lst ea_nil (by show 0 ≤ 100000; decide))) (by show 0 ≤ 6; decide) (fun r H10 hr10 e10 h10 => ?_))
      exact ⟨_, rfl, rfl, rfl, d, _, .str "machines", rfl, e10 _ _ h9, rfl, by show 2 ≤ sizeLine; decide, fun t ht => q.bad hz t r _ (fresh_back (e9.trans e10) ht) ((e9.trans e10).trans (Ex.new ht)) upd_same⟩
/-- _law_extended(net, other) -/
def spExt (C N : Addr) : Sp := fun vs H Q _ => ∃ (a b : Addr) (xs ys : List V), vs = [.ref a, .ref b] ∧ NtAt N H a xs ∧ MbAt C N H b ys ∧ xs.length ≤ 40 ∧ ys.length ≤ 40 ∧
  ((xs ++ ys).length ≤ 6 → ∀ t H', H t = none → ExB a H H' → NtAt N H' a (xs ++ ys) → H' t = some (.tup [.ref a, .str ""]) → Q (.ref t) H') ∧ (6 < (xs ++ ys).length → ∀ t H', H t = none → Ex H H' → H' t = some (.tup [.ref a, .str "machines"]) → Q (.ref t) H')
theorem scExt : FnScope ["_law_net", "_law_other", "e"] ["_law_net", "_law_other"] (defScope (topS 41)) := ⟨rfl, rfl, rfl, by decide +kernel, rfl, by decide +kernel, by decide +kernel⟩
theorem ok_ext {f g : Addr} {fd gd : FuncData} {k : Nat} (F : Fun K "_law_extended" "_law_extended" (topS 41) f fd) (M : InM K N .BitOr g) (FI : FnOk P w K mg base (L2N.CX P w) k g gd ["self", "other"] (spNtIor C N CB)) (BI : Binds K gd ["self", "other"] []) (R : ErrT K mg CB) : FnOk P w K mg base CX0 (k + 1) f fd ["_law_net", "_law_other"] (spExt C N) := by
  refine F.ok scExt (fun vs H Q E h => ?_) (fun cdv A outer s H vs Q E hr h => ?_)
  · obtain ⟨a, b, xs, ys, rfl, _⟩ := h
    rfl
  · obtain ⟨a, b, xs, ys, rfl, ha, hb, lx, ly, q1, q2⟩ := h
    obtain ⟨dx, t, h1, h2⟩ := id ha
    refine ⟨_, pss_cons (L2N.ps_try_as (i := 2) (tb := fun W => tAugO N (spNtIor C N CB) (WE W) 0 (tVar 1)) (ts := fun a cls d => tRet (tTup (tCons (tVar 0) (tCons (tXf a cls d CB "field" (tVar 2)) tNil)))) (Wout := fun _ _ _ _ => False) rfl rfl scExt.nd rfl rfl ⟨rfl, by decide, Or.inl R.gB⟩ (takes0N)
          (fun W pn xe tk _ => pss_one (by exact (ps_augO (i := 0) scExt.nd rfl (Or.inl rfl) (pv 1) M FI hr BI (fun σ => L2N.passAt tk σ))))
          (fun a oe cls d pn hz hf => pss_one (ps_ret (by exact (pe_tup (pa_cons (pv 0) (pa_cons (pe_xf R.xf R.no hz.zc hf (pv 2)) pa_nil)))))))
      (pss_one (ps_ret (pe_tup (pa_cons (pv 0) (pa_cons pe_str pa_nil))))), ?_⟩
    refine ⟨_, rfl, _, rfl, a, dx, _, rfl, h1, a, b, xs, ys, rfl, ha, hb, lx, ly, fun hz H9 e9 h9 => ?_, fun hz d H9 e9 hd h9 => ?_⟩
    · refine ⟨_, rfl, by show 2 ≤ sizeLine; decide, fun t9 ht => ?_⟩
      have ht0 : H t9 = none := by
        cases e : H t9 with
        | none => rfl
        | some o =>
          by_cases hta : t9 = a
          · obtain ⟨dy, u, g1, _⟩ := h9
            rw [← hta, ht] at g1
            cases g1
          · rw [e9 _ _ hta e] at ht
            cases ht
      exact q1 hz t9 _ ht0 (e9.trans (ExB.of (Ex.new ht))) (h9.ex (Ex.new ht)) upd_same
    · refine ⟨true, R.te, fun _ a0 ha0 => ?_, fun hq => nomatch hq⟩
      exact ⟨_, rfl, _, rfl, rfl, rfl, d, _, .str "machines", rfl, h9, rfl, by show 2 ≤ sizeLine; decide, fun t ht => q2 hz t _ (fresh_back e9 ht) (e9.trans (Ex.new ht)) upd_same⟩
end
end Fs

set_option Elab.async false
set_option linter.all false
set_option maxRecDepth 100000
set_option maxHeartbeats 4000000
/-! lists made of new things, over a list -/
namespace FsW
open PySem L2 Evl FsE FsC FsR FsK
/-- a new list, with a word of its items -/
def EvLW (te : TE) (σ : L2.St) (H : Hp) (Pv : List V → Hp → Prop) : Prop := ∀ H1, Ex H H1 → ∀ Q : VK, (∀ p H2 ys, H1 p = none → Ex H1 H2 → H2 p = some (.lst ys) → Pv ys H2 → Q (.ref p) H2) → te σ H1 Q
def CwW {α : Type} (R : Hp → V → α → Prop) (H1 : Hp) (ns : List α) (Dl : Addr) (i : Nat) (H' : Hp) : Prop := H1 Dl = none ∧ Ex H1 H' ∧ ∃ ys, H' Dl = some (.lst ys) ∧ LsA R H' ys (ns.take i)
section
variable {α : Type} {R : Hp → V → α → Prop} {σ : L2.St} {H : Hp} {te tl ta tb tc td : TE} {K : PySem.W.Frag}
theorem cwW_turn {H1 H' : Hp} {ns : List α} {Dl : Addr} {i : Nat} {σ2 : L2.St} {n : α} (kp : ∀ H H' v x, ExN H H' → R H v x → R H' v x) (p : CwW R H1 ns Dl i H') (hi : i < 50000) (hn : ns[i]? = some n) (he : EvS te σ2 H1 (fun v H2 => R H2 v n)) :
    tYes σ2 H' fun b H3 => if b = true then te σ2 H3 fun y H4 => ∃ acc, H4 Dl = some (.lst acc) ∧ acc.length < sizeLine ∧ CwW R H1 ns Dl (i + 1) (upd H4 Dl (.lst (acc ++ [y]))) else CwW R H1 ns Dl (i + 1) H3 := by
  obtain ⟨p1, p2, ys, p3, p4⟩ := p
  show te σ2 H' fun y H4 => ∃ acc, H4 Dl = some (.lst acc) ∧ acc.length < sizeLine ∧ CwW R H1 ns Dl (i + 1) (upd H4 Dl (.lst (acc ++ [y])))
  refine he H' p2 _ fun y H4 e4 hy => ?_
  have h4 := e4 _ _ p3
  have hl := p4.length
  rw [List.length_take] at hl
  refine ⟨ys, h4, sz_lt (by omega), p1, Ex.mut (p2.trans e4) p1, ys ++ [y], upd_same, ?_⟩
  rw [List.take_add_one, hn]
  exact LsA.snoc (p4.imp fun _ _ z => kp _ _ _ _ ((ExN.of e4).trans (ExN.upd h4)) z) (kp _ _ _ _ (ExN.upd h4) hy)
/-- [e for x in (a list)], e new -/
theorem elw_L {a : Addr} {xs : List V} {j : Nat} {vs : List Nat} (ns : List α) (kp : ∀ H H' v x, ExN H H' → R H v x → R H' v x) (h : Ev tl σ H (.ref a)) (hx : SqL K H a xs) (hz : xs.length ≤ 40000) (hw : ∀ x, wipe ((wipe σ vs).set j (some x)) vs = wipe σ vs) (hl : ns.length = xs.length)
    (he : ∀ (i : Nat) (x : V) (n : α) H1, Ex H H1 → xs[i]? = some x → ns[i]? = some n → EvS te ((wipe σ vs).set j (some x)) H1 (fun v H2 => R H2 v n)) :
    EvLW (tLc (iList K tl) (gName j) tYes te vs) σ H (fun ys H' => LsA R H' ys ns) := fun H0 e Q q => h H0 e _ fun H1 e1 => ⟨a, rfl, ⟨xs, ex_l (e.trans e1) hx⟩, fun Dl hD =>
  lc_list (xs := xs) (CwW R H1 ns Dl) ⟨hD, Ex.new hD, [], upd_same, by rw [List.take_zero]; trivial⟩ (fun i H' _ p => ex_l ((e.trans e1).trans p.2.1) hx) (fun i x H' hi p => by
    have hi1 := (List.getElem?_eq_some_iff.mp hi).1
    have hn : ns[i]? = some ns[i] := List.getElem?_eq_getElem (by omega)
    exact ⟨hw x, cwW_turn kp p (by omega) hn (he i x _ H1 (e.trans e1) hi hn)⟩)
    (fun H' p => by
      obtain ⟨p1, p2, ys, p3, p4⟩ := p
      rw [List.take_of_length_le (by omega)] at p4
      exact q Dl H' ys (fresh_back e1 p1) (e1.trans p2) p3 p4)⟩
/-- x = (a new list) -/
theorem q_asgLW {i : Nat} {tz : TS} {D : Ends} {Pv : List V → Hp → Prop} (h : EvLW te σ H Pv) (k : ∀ p H1 ys, H p = none → Ex H H1 → H1 p = some (.lst ys) → Pv ys H1 → tz D (σ.set i (some (.ref p))) H1) : tSeq (tAsg te (gName i)) tz D σ H := h H (Ex.refl H) _ fun p H1 ys hp e h1 hk => k p H1 ys hp e h1 hk
end
end FsW

set_option Elab.async false
set_option linter.all false
set_option maxRecDepth 100000
set_option maxHeartbeats 2000000
/-! a class made by its name within a try: what is raised may ask for the slots -/
namespace FsS
open PySem PySem.Spec PyProof.Rows L2
def tMakeS (C : Addr) (sp : Sp) (E : L2.St → XK) (t : TA) : TE := fun σ H Q => t σ H fun vs H1 => ∀ x dx, H1 x = none → H1 dx = none → dx ≠ x →
  sp (.ref x :: vs) (upd (upd H1 dx (.own x)) x (.ins C dx [])) (fun v H2 => v = .non ∧ Q (.ref x) H2) (E σ)
section
variable {X : Cx} {CX : CXT} {k : Nat} {f C : Addr} {fd : FuncData} {ps : List Str} {sp : Sp} {E : L2.St → XK} {x : Str} {p pos : Pos} {e : Expr} {es : List Expr} {t : TA}
theorem run_makeS {pins : List (Addr × Obj)} {σ : L2.St} {H : Hp} {s : Shared} {Q : VK} {us : List Value} {vs : List V} (M : Mk X.K C f) (F : FnOk X.prog X.w X.K X.mg X.base CX k f fd ps sp) (hr : Room (k + 1) X.A) (hb : Binds X.K fd ps [])
    (hx : PassesAt CX X σ (E σ)) (I : Inv X pins σ H s) (r : Vals vs us)
    (h : ∀ x dx, H x = none → H dx = none → dx ≠ x → sp (.ref x :: vs) (upd (upd H dx (.own x)) x (.ins C dx [])) (fun v H2 => v = .non ∧ Q (.ref x) H2) (E σ)) :
    wpAny (model X.prog X.w) X.A (call (.ref C) us) (EP X pins σ Q) X.xe s := by
  have hq := h (s.heap.objs.size + 1) s.heap.objs.size (I.hok.fresh (Nat.le_succ _)) (I.hok.fresh (Nat.le_refl _)) (Nat.ne_of_lt (Nat.lt_succ_self _))
  have I2 := Inv.made (C := C) I
  have r2 : Vals (V.ref (s.heap.objs.size + 1) :: vs) (Value.ref (s.heap.objs.size + 1) :: us) := .cons rfl r
  have hl : (Value.ref (s.heap.objs.size + 1) :: us).length = ps.length := by
    have e := r2.length
    rw [F.len _ _ _ _ hq] at e
    exact e.symm
  have b := hb _ (Value.ref (s.heap.objs.size + 1) :: us) I2.kIn (by rw [List.append_nil]; exact hl)
  rw [List.append_nil] at b
  refine wpAny_call (make_map (f := f) I.kIn M.makes M.init (beq_iff_eq.mp M.fn) (codeAny_mono (F.run _ X.stack _ _ ⟨Value.ref (s.heap.objs.size + 1) :: us, []⟩ (Value.ref (s.heap.objs.size + 1) :: us) _ _ (E σ) (hr.make C us [])
    (I2.env0.make C us []) b r2 hq) fun r s' hq' => ?_))
  cases r with
  | error e => exact hx pins _ _ e s' I2 hq'
  | ok fl =>
    cases fl with
    | ret u =>
      obtain ⟨v, H', I3, rv, ev, q3⟩ := I2.after hq'
      subst ev
      exact ⟨rv, ⟨V.ref (s.heap.objs.size + 1), H', I3, rfl, q3⟩⟩
    | next => exact False.elim hq'
    | brk => exact False.elim hq'
    | cont => exact False.elim hq'
theorem pe_makeS (M : Mk X.K C f) (F : FnOk X.prog X.w X.K X.mg X.base CX k f fd ps sp) (hr : Room (k + 1) X.A) (hg : Gl X x) (hm : X.mg x = some (.ref C)) (hb : Binds X.K fd ps []) (hx : ∀ σ, PassesAt CX X σ (E σ))
    (ha : PA X (e :: es) t) (hdb : (x == ("__debug__" : Str)) = false := by decide) (he : starEach (e :: es) X.env = (false, eval e X.env) :: starEach es X.env := by rfl) (hpl : (backTo pos (starEach es X.env)).any (·.1) = false := by rfl) :
    PE X (.Call (.Name x p) (e :: es) [] pos) (tMakeS C sp E t) := by
  refine ⟨fun pins s σ H Q I h => ?_⟩
  refine wpAny_Call_Name_kw (ld_glob I hg hm ?_ hdb)
  refine PySem.W.callWith_K (h₀ := X.base) I.ok.mod.kin M.kp (thn (ha.run pos pins s σ H _ I h) fun us s1 ⟨vs, H1, I1, r, q⟩ => ⟨I1.kIn, ?_⟩) he hpl
  exact run_makeS M F hr hb (hx _) I1 r q
end
end FsS

set_option Elab.async false
set_option linter.all false
set_option maxRecDepth 100000
set_option maxHeartbeats 8000000
/-! the law's nets made from a list -/
namespace Fs
open PySem L2 Evl FsE FsC FsR FsA FsQ FsK FsW FsS
def LpAt (C : Addr) (H : Hp) (v : V) (l : Int) : Prop := ∃ a, v = .ref a ∧ PrAt C H a (pL l)
theorem lp_kp {C : Addr} : ∀ H H' v x, ExN H H' → LpAt C H v x → LpAt C H' v x := fun _ _ _ _ e ⟨a, h1, h2⟩ => ⟨a, h1, PrAt.keep e h2⟩
theorem prs_of {C : Addr} {H : Hp} : ∀ {xs : List V} {ls : List Int}, LsA (LpAt C) H xs ls → PrsAt C H xs (ls.map pL)
  | [], [], _ => trivial
  | [], _ :: _, h => h.elim
  | _ :: _, [], h => h.elim
  | _ :: _, _ :: _, ⟨⟨a, h1, h2⟩, h3⟩ => ⟨⟨a, h1, h2⟩, prs_of h3⟩
theorem PrsAt.keep {C : Addr} {H H' : Hp} (e : ExN H H') : ∀ {xs : List V} {ps : List Pr}, PrsAt C H xs ps → PrsAt C H' xs ps
  | [], [], _ => trivial
  | [], _ :: _, h => h.elim
  | _ :: _, [], h => h.elim
  | _ :: _, _ :: _, ⟨⟨a, h1, h2⟩, h3⟩ => ⟨⟨a, h1, PrAt.keep e h2⟩, h3.keep e⟩
theorem NtAt.keepN {N a : Addr} {H H' : Hp} {xs : List V} (e : ExN H H') (h : NtAt N H a xs) : NtAt N H' a xs := by
  obtain ⟨dx, t, h1, h2⟩ := h
  exact ⟨dx, t, e.ins _ _ _ _ h1, e.tup _ _ h2⟩
section
variable {P : Program} {w : World} {K : PySem.W.Frag} {mg : Str → Option Value} {base : Heap} {C N CB : Addr}
theorem q_appS {σ : L2.St} {H : Hp} {ta te : TE} {tz : TS} {D : Ends} {l : Addr} {xs : List V} {Pv : V → Hp → Prop} (hl : H l = some (.lst xs)) (ha : Ev ta σ H (.ref l)) (h : EvS te σ H Pv) (hz : xs.length < 100000) (k : ∀ v H1, Ex H H1 → Pv v H1 → tz D σ (upd H1 l (.lst (xs ++ [v])))) :
    tSeq (tDrop (tBM K "list" rAppend ta (tCons te tNil))) tz D σ H := ha H (Ex.refl H) _ fun H1 e1 =>
  ⟨Or.inl ⟨rfl, xs, sq_of (e1 l _ hl)⟩, h H1 e1 _ fun v H2 e2 hv => ⟨l, xs, v, rfl, rfl, e2 l _ (e1 l _ hl), sz_lt hz, k v H2 (e1.trans e2) hv⟩⟩
def spListed (K : PySem.W.Frag) (C N : Addr) : Sp := fun vs H Q _ => ∃ (l : Addr) (ls : List Int), vs = [.ref l] ∧ SqL K H l (ls.map V.int) ∧ LbOk ls ∧ ls.length ≤ 90 ∧
  (ls.length ≤ 6 → ∀ t r xs H', H t = none → Ex H H' → H' t = some (.tup [.ref r, .str ""]) → NtAt N H' r xs → PrsAt C H' xs (ls.map pL) → H r = none → Q (.ref t) H') ∧ (6 < ls.length → ∀ t r H', H t = none → Ex H H' → H' t = some (.tup [.ref r, .str "machines"]) → Q (.ref t) H')
abbrev nsLd : List Str := ["_law_labels", "_law_passed", "_law_label", "_law_net", "e"]
theorem scLd : FnScope nsLd ["_law_labels"] (defScope (topS 40)) := ⟨rfl, rfl, rfl, by decide +kernel, rfl, by decide +kernel, by decide +kernel⟩
theorem ok_listed {f : Addr} {fd : FuncData} {k : Nat} (hk : 2 ≤ k) (F : Fun K "_law_listed" "_law_listed" (topS 40) f fd) (GL : CalX P w K mg base CX0 k "_law_process" (spLp C)) (MN : MakX P w K mg base (L2N.CX P w) k "Net" N (spNtInit K N CB)) (NH : NetH P w K mg base N) (R : ErrT K mg CB) : FnOk P w K mg base CX0 (k + 2) f fd ["_law_labels"] (spListed K C N) := by
  refine F.ok scLd (fun vs H Q E h => ?_) (fun cdv A outer s H vs Q E hr h => ?_)
  · obtain ⟨l, ls, rfl, _⟩ := h
    rfl
  · obtain ⟨l, ls, rfl, hl, hok, hlen, q1, q2⟩ := h
    obtain ⟨fN, fdN, MH, FH, mN, BH⟩ := NH.ex
    obtain ⟨fI, fdI, psI, MI, FI, mI, BI⟩ := MN.ex
    refine ⟨_, pss_cons (ps_setLc (i := 1) (own := [("_law_label", 2)]) (g := gName 2) (tt := tYes) (te := tCallS (spLp C) (fun _ => E0) (tCons (tVar 2) tNil)) rfl scLd.nd rfl rfl (sw_true rfl rfl rfl (by decide +kernel)) (pi_list (pv 0)) (blkOk_by (own := [("_law_label", 2)]) (N := nsLd) (sc := defScope (topS 40)) (by decide +kernel))
        (fun _ _ _ _ _ => pg_name (i := 2) scLd.nd rfl (.inl rfl)) (fun _ _ _ _ _ => pts_nil) (fun _ _ _ _ _ => pe_cx (E := fun _ => E0) GL hr (by omega) (by rfl) at0 (pa_cons (pv 2) pa_nil)))
      (pss_cons (L2N.ps_try_as (i := 4) (tb := fun W => tAsg (tMakeS N (spNtInit K N CB) (WE W) (tCons (tVar 1) tNil)) (gName 3)) (ts := tsNtH K N CB 4) (Wout := fun _ _ _ _ => False) rfl rfl scLd.nd rfl rfl ⟨rfl, by decide, Or.inl R.gB⟩ (takes0N)
          (fun W pn xe tk _ => pss_one (ps_set (i := 3) scLd.nd rfl (Or.inl rfl) (by exact (pe_makeS MI FI hr (by rfl) mI BI (fun σ => L2N.passAt tk σ) (pa_cons (pv 1) pa_nil)))))
          (fun a oe cls d pn hz hf => pss_one (ps_ret (by exact (pe_tup (pa_cons (FsH.pe_makeH (E := E0) MH FH ((room_mark hr).mono (by omega)) (FsH.hot_suite hz hf) (by rfl) mN BH pass0 (pa_cons (pe_lst pa_nil) pa_nil)) (pa_cons (pe_xf R.xf R.no hz.zc hf (pv 4)) pa_nil)))))))
      (pss_cons (ps_expr (pe_bm PySem.F.plainAttrs_list PySem.F.slot_list_append PySem.F.type_list_append mt_append (pv 1) (pa_cons (pe_cx (E := fun _ => E0) GL hr (by omega) (by rfl) at0 (pa_cons pe_int pa_nil)) pa_nil)))
      (pss_one (ps_ret (pe_tup (pa_cons (pv 3) (pa_cons pe_str pa_nil)))))) ), ?_⟩
    refine q_asgLW (Pv := fun ys H' => LsA (LpAt C) H' ys ls) (elw_L (R := LpAt C) ls lp_kp (ev_var rfl) hl (by rw [List.length_map]; omega) (fun x => rfl) (by rw [List.length_map]) (fun i x n H1 e1 hx hn => ?_)) (fun p H1 ys hp e1 h1 hys => ?_)
    · rw [List.getElem?_map, hn] at hx
      cases hx
      have ho := hok n (List.mem_of_getElem? hn)
      exact fun H2 e2 Q' q' => ⟨_, rfl, n, rfl, ho.1, ho.2, fun a H3 ha e3 h3 => q' (.ref a) H3 e3 ⟨a, rfl, h3⟩⟩
    have hyl : ys.length = ls.length := hys.length
    refine ⟨_, rfl, fun x dx hx hdx hne => ?_⟩
    have x0 : Ex H1 (upd (upd H1 dx (.own x)) x (.ins N dx [])) := by
      intro b o hb
      rw [upd_ne (ne_of_none hb hx), upd_ne (ne_of_none hb hdx)]
      exact hb
    refine ⟨x, dx, p, ys, H1, rfl, upd_same, hx, x0, .inl (sq_of h1), fun hz H2 e2 h2 => ⟨rfl, ?_⟩, fun hz d H9 e9 hd h9 => ?_⟩
    · show tSeq (tDrop (tBM K "list" rAppend (tVar 1) (tCons (tCallS (spLp C) (fun _ => E0) (tCons (tC (.int 7)) tNil)) tNil))) (tRet (tTup (tCons (tVar 3) (tCons (tC (.str "")) tNil)))) { nx := fun _ H' => Q .non H', rt := Q } [some (.ref l), some (.ref p), none, some (.ref x), none] H2
      refine q_appS (xs := ys) (Pv := fun v H' => LpAt C H' v 7) (e2 _ _ h1) (ev_var rfl) (fun H3 e3 Q' q' => ⟨7, rfl, by decide, by decide, fun a H4 ha e4 h4 => q' (.ref a) H4 e4 ⟨a, rfl, h4⟩⟩) (by omega) (fun v H3 e3 hv => ?_)
      have hp3 : H3 p = some (.lst ys) := e3 _ _ (e2 _ _ h1)
      have x3 : Ex H (upd H3 p (.lst (ys ++ [v]))) := Ex.mut ((e1.trans e2).trans e3) hp
      refine eu_tup (vs := [.ref x, .str ""]) (H := upd H3 p (.lst (ys ++ [v]))) (ea_cons (ev_var rfl) (ea_cons ev_c ea_nil)) (by show 2 ≤ 100000; decide) _ (Ex.refl _) _ fun t H4 ht e4 h4 => ?_
      exact q1 (by omega) t x ys H4 (fresh_back x3 ht) (x3.trans e4) h4 (((h2.ex e3).keepN (ExN.upd hp3)).ex e4) (((((prs_of hys).ex e2).ex e3).keep (ExN.upd hp3)).ex e4) (fresh_back e1 hx)
    · refine ⟨true, R.te, fun _ a0 ha0 => ?_, fun hq => nomatch hq⟩
      unfold tsNtH tRet tTup
      refine s_cons (mk_netH (K := K) (xs := []) (eq_l (el_lst ea_nil (by show 0 ≤ 100000; decide))) (by show 0 ≤ 6; decide) (fun r H10 hr10 e10 h10 => ?_))
      exact ⟨_, rfl, rfl, rfl, d, _, .str "machines", rfl, e10 _ _ h9, rfl, by show 2 ≤ sizeLine; decide, fun t ht => q2 (by omega) t r _ (fresh_back ((e1.trans e9).trans e10) ht) (((e1.trans e9).trans e10).trans (Ex.new ht)) upd_same⟩
end
end Fs

set_option Elab.async false
set_option linter.all false
set_option maxRecDepth 100000
set_option maxHeartbeats 8000000
/-! the law's nets and labels, as they stand in the heap -/
namespace Fs
open PySem L2 Evl FsE FsC FsR FsA FsQ FsK FsW FsS
/-- what instances of C and tuples are stays -/
structure ExC (C : Addr) (H H' : Hp) : Prop where
  ins : ∀ a dx fs, H a = some (.ins C dx fs) → H' a = some (.ins C dx fs)
  tup : ∀ a xs, H a = some (.tup xs) → H' a = some (.tup xs)
mutual
theorem PrAt.keepC {C : Addr} {H H' : Hp} (e : ExC C H H') : ∀ {p : Pr} {a : Addr}, PrAt C H a p → PrAt C H' a p
  | .choice os, a, h => by
    unfold PrAt at h ⊢
    obtain ⟨t, ps, ⟨dx, h1⟩, h2, h3⟩ := h
    exact ⟨t, ps, ⟨dx, e.ins _ _ _ h1⟩, e.tup _ _ h2, OfsAt.keepC e h3⟩
  | .new n k r, a, h => by
    unfold PrAt at h ⊢
    obtain ⟨t, b, ⟨dx, h1⟩, h2, h3⟩ := h
    exact ⟨t, b, ⟨dx, e.ins _ _ _ h1⟩, e.tup _ _ h2, PrAt.keepC e h3⟩
  | .cond l r y n, a, h => by
    unfold PrAt at h ⊢
    obtain ⟨t, b, c, ⟨dx, h1⟩, h2, h3, h4⟩ := h
    exact ⟨t, b, c, ⟨dx, e.ins _ _ _ h1⟩, e.tup _ _ h2, PrAt.keepC e h3, PrAt.keepC e h4⟩
  | .call n ops, a, h => by
    unfold PrAt at h ⊢
    obtain ⟨t, u, ⟨dx, h1⟩, h2, h3⟩ := h
    exact ⟨t, u, ⟨dx, e.ins _ _ _ h1⟩, e.tup _ _ h2, e.tup _ _ h3⟩
theorem OfsAt.keepC {C : Addr} {H H' : Hp} (e : ExC C H H') : ∀ {os : Ofs} {ps : List V}, OfsAt C H ps os → OfsAt C H' ps os
  | .nil, ps, h => by
    unfold OfsAt at h ⊢
    exact h
  | .cons c s m op ns r os, ps, h => by
    unfold OfsAt at h ⊢
    obtain ⟨o, u, b, qs, h1, h2, h3, h4, h5⟩ := h
    exact ⟨o, u, b, qs, h1, e.tup _ _ h2, e.tup _ _ h3, PrAt.keepC e h4, OfsAt.keepC e h5⟩
end
theorem PrsAt.keepC {C : Addr} {H H' : Hp} (e : ExC C H H') : ∀ {xs : List V} {ps : List Pr}, PrsAt C H xs ps → PrsAt C H' xs ps
  | [], [], _ => trivial
  | [], _ :: _, h => h.elim
  | _ :: _, [], h => h.elim
  | _ :: _, _ :: _, ⟨⟨a, h1, h2⟩, h3⟩ => ⟨⟨a, h1, h2.keepC e⟩, h3.keepC e⟩
theorem ExB.toC {C N a dx : Addr} {fs : List (Str × V)} {H H' : Hp} (hn : C ≠ N) (ha : H a = some (.ins N dx fs)) (e : ExB a H H') : ExC C H H' := ⟨fun b dy gs h => e _ _ (fun z => by
    rw [z, ha] at h
    cases h
    exact hn rfl) h, fun b xs h => e _ _ (fun z => by
    rw [z, ha] at h
    cases h) h⟩
/-- two lists may change -/
structure ExL (nl ll : Addr) (H H' : Hp) : Prop where
  n : ExN H H'
  l : ∀ a xs, a ≠ nl → a ≠ ll → H a = some (.lst xs) → H' a = some (.lst xs)
theorem ExL.of {nl ll : Addr} {H H' : Hp} (e : Ex H H') : ExL nl ll H H' := ⟨.of e, fun _ _ _ _ h => e _ _ h⟩
theorem ExL.trans {nl ll : Addr} {H H1 H2 : Hp} (e : ExL nl ll H H1) (f : ExL nl ll H1 H2) : ExL nl ll H H2 := ⟨e.n.trans f.n, fun a xs h1 h2 h => f.l a xs h1 h2 (e.l a xs h1 h2 h)⟩
theorem ExL.updN {nl ll : Addr} {H : Hp} {xs ys : List V} (h : H nl = some (.lst xs)) : ExL nl ll H (upd H nl (.lst ys)) := ⟨.upd h, fun a zs h1 _ h => by
  rw [upd_ne h1]
  exact h⟩
theorem ExL.updL {nl ll : Addr} {H : Hp} {xs ys : List V} (h : H ll = some (.lst xs)) : ExL nl ll H (upd H ll (.lst ys)) := ⟨.upd h, fun a zs _ h2 h => by
  rw [upd_ne h2]
  exact h⟩
/-- one entry -/
structure En where
  t : Addr
  a : Addr
  b : Bool
  l : Addr
  xs : List V
  ls : List Int
structure EnAt (C N : Addr) (H : Hp) (e : En) : Prop where
  tp : H e.t = some (.tup [.ref e.a, .bl e.b])
  nt : e.b = true → NtAt N H e.a e.xs
  pr : e.b = false → (∃ p, PrAt C H e.a p) ∧ e.xs = [.ref e.a]
  ps : PrsAt C H e.xs (e.ls.map pL)
  lb : H e.l = some (.lst (e.ls.map V.int))
  ok : LbOk e.ls
  sz : e.ls.length ≤ 6
section
variable {C N nl ll : Addr} {H H' : Hp} {e : En}
theorem EnAt.mb (h : EnAt C N H e) : MbAt C N H e.a e.xs := by
  cases hb : e.b with
  | true => exact .inl (h.nt hb)
  | false => exact .inr (h.pr hb)
theorem EnAt.len (h : EnAt C N H e) : e.xs.length = e.ls.length := by rw [h.ps.len, List.length_map]
theorem EnAt.ex (x : Ex H H') (h : EnAt C N H e) : EnAt C N H' e := ⟨x _ _ h.tp, fun z => (h.nt z).ex x, fun z => by
    obtain ⟨⟨p, q⟩, y⟩ := h.pr z
    exact ⟨⟨p, q.ex x⟩, y⟩, h.ps.ex x, x _ _ h.lb, h.ok, h.sz⟩
theorem EnAt.keepL (x : ExL nl ll H H') (h1 : e.l ≠ nl) (h2 : e.l ≠ ll) (h : EnAt C N H e) : EnAt C N H' e := ⟨x.n.tup _ _ h.tp, fun z => (h.nt z).keepN x.n, fun z => by
    obtain ⟨⟨p, q⟩, y⟩ := h.pr z
    exact ⟨⟨p, PrAt.keep x.n q⟩, y⟩, h.ps.keep x.n, x.l _ _ h1 h2 h.lb, h.ok, h.sz⟩
theorem EnAt.keepB {a dx t : Addr} (hn : C ≠ N) (ha : H a = some (.ins N dx [("members", .ref t)])) (x : ExB a H H') (h1 : e.b = true → e.a ≠ a) (h : EnAt C N H e) : EnAt C N H' e := ⟨(x.toC hn ha).tup _ _ h.tp, fun z => (h.nt z).keep x (h1 z) ha, fun z => by
    obtain ⟨⟨p, q⟩, y⟩ := h.pr z
    exact ⟨⟨p, q.keepC (x.toC hn ha)⟩, y⟩, h.ps.keepC (x.toC hn ha), x _ _ (fun z => by
      have hl := h.lb
      rw [z, ha] at hl
      cases hl) h.lb, h.ok, h.sz⟩
end
/-- the law's two lists -/
structure StAt (C N : Addr) (H : Hp) (nl ll : Addr) (es : List En) : Prop where
  hnl : H nl = some (.lst (es.map fun e => V.ref e.t))
  hll : H ll = some (.lst (es.map fun e => V.ref e.l))
  at_ : ∀ e ∈ es, EnAt C N H e
  ne : nl ≠ ll
  ln : ∀ e ∈ es, e.l ≠ nl ∧ e.l ≠ ll
  dis : ∀ (i j : Nat) (e f : En), es[i]? = some e → es[j]? = some f → e.b = true → f.b = true → e.a = f.a → i = j
section
variable {C N nl ll : Addr} {H H' : Hp} {es : List En}
theorem StAt.ex (x : Ex H H') (h : StAt C N H nl ll es) : StAt C N H' nl ll es := ⟨x _ _ h.hnl, x _ _ h.hll, fun e he => (h.at_ e he).ex x, h.ne, h.ln, h.dis⟩
theorem StAt.nt {i : Nat} {e : En} (h : es[i]? = some e) : (es.map fun e => V.ref e.t)[i]? = some (.ref e.t) := by rw [List.getElem?_map, h]; rfl
theorem StAt.lt {i : Nat} {e : En} (h : es[i]? = some e) : (es.map fun e => V.ref e.l)[i]? = some (.ref e.l) := by rw [List.getElem?_map, h]; rfl
theorem StAt.push {e : En} (x : ExL nl ll H H') (h : StAt C N H nl ll es) (he : EnAt C N H e) (hf : ∀ f ∈ es, f.b = true → f.a ≠ e.a) (l1 : e.l ≠ nl) (l2 : e.l ≠ ll)
    (h1 : H' nl = some (.lst ((es.map fun e => V.ref e.t) ++ [.ref e.t]))) (h2 : H' ll = some (.lst ((es.map fun e => V.ref e.l) ++ [.ref e.l]))) : StAt C N H' nl ll (es ++ [e]) := by
  refine ⟨by rw [h1, List.map_append]; rfl, by rw [h2, List.map_append]; rfl, fun f hm => ?_, h.ne, fun f hm => ?_, fun i j f g hi hj fb gb hh => ?_⟩
  · rcases List.mem_append.mp hm with hm | hm
    · exact (h.at_ f hm).keepL x (h.ln f hm).1 (h.ln f hm).2
    · rw [List.mem_singleton.mp hm]
      exact he.keepL x l1 l2
  · rcases List.mem_append.mp hm with hm | hm
    · exact h.ln f hm
    · rw [List.mem_singleton.mp hm]
      exact ⟨l1, l2⟩
  · have low : ∀ (i : Nat) (f : En), (es ++ [e])[i]? = some f → (i < es.length ∧ es[i]? = some f) ∨ (i = es.length ∧ f = e) := fun i f hi => by
      by_cases hl : i < es.length
      · rw [List.getElem?_append_left hl] at hi
        exact .inl ⟨hl, hi⟩
      · rw [List.getElem?_append_right (by omega)] at hi
        by_cases hz : i - es.length = 0
        · rw [hz] at hi
          cases hi
          exact .inr ⟨by omega, rfl⟩
        · rw [List.getElem?_eq_none (by show 1 ≤ i - es.length; omega)] at hi
          cases hi
    rcases low i f hi with ⟨_, hi'⟩ | ⟨hi', rfl⟩
    · rcases low j g hj with ⟨_, hj'⟩ | ⟨hj', rfl⟩
      · exact h.dis i j f g hi' hj' fb gb hh
      · exact (hf f (List.mem_of_getElem? hi') fb hh).elim
    · rcases low j g hj with ⟨_, hj'⟩ | ⟨hj', rfl⟩
      · exact (hf g (List.mem_of_getElem? hj') gb hh.symm).elim
      · rw [hi', hj']
theorem StAt.extd {H1 H2 : Hp} {i : Nat} {e : En} {p dx t : Addr} {zs : List V} {ms : List Int} (hn : C ≠ N) (h : StAt C N H nl ll es) (hi : es[i]? = some e) (hb : e.b = true) (ha : H e.a = some (.ins N dx [("members", .ref t)])) (x : ExB e.a H H1) (hz : NtAt N H1 e.a zs) (hp : PrsAt C H zs (ms.map pL)) (hok : LbOk ms) (hm : ms.length ≤ 6)
    (x2 : Ex H1 H2) (h2 : H2 p = some (.lst (ms.map V.int))) (p1 : p ≠ nl) (p2 : p ≠ ll) : StAt C N (upd H2 ll (.lst ((es.map fun e => V.ref e.l).set i (.ref p)))) nl ll (es.set i { e with l := p, xs := zs, ls := ms }) := by
  have hne : nl ≠ e.a := fun z => by
    have hl := h.hnl
    rw [z, ha] at hl
    cases hl
  have hle : ll ≠ e.a := fun z => by
    have hl := h.hll
    rw [z, ha] at hl
    cases hl
  have k2 : H2 ll = some (.lst (es.map fun e => V.ref e.l)) := x2 _ _ (x _ _ hle h.hll)
  have xl : ExL nl ll H2 (upd H2 ll (.lst ((es.map fun e => V.ref e.l).set i (.ref p)))) := ExL.updL k2
  have hlt : i < es.length := (List.getElem?_eq_some_iff.mp hi).1
  refine ⟨?_, ?_, fun f hf => ?_, h.ne, fun f hf => ?_, fun j k f g hj hk fb gb hh => ?_⟩
  · rw [upd_ne h.ne, x2 _ _ (x _ _ hne h.hnl), List.map_set]
    have : (es.map fun e => V.ref e.t).set i (V.ref e.t) = es.map fun e => V.ref e.t := by
      refine List.ext_getElem? fun j => ?_
      rw [List.getElem?_set]
      by_cases hj : i = j
      · subst hj
        rw [if_pos rfl, if_pos (by rw [List.length_map]; exact hlt), StAt.nt hi]
      · rw [if_neg hj]
    rw [this]
  · rw [upd_same, List.map_set]
  · obtain ⟨j, hj⟩ := List.mem_iff_getElem?.mp hf
    rw [List.getElem?_set] at hj
    by_cases hij : i = j
    · rw [if_pos hij, if_pos (by omega)] at hj
      cases hj
      have o := h.at_ e (List.mem_of_getElem? hi)
      refine EnAt.keepL xl p1 p2 ⟨x2 _ _ ((x.toC hn ha).tup _ _ o.tp), fun _ => hz.ex x2, fun z => ?_, (hp.keepC (x.toC hn ha)).ex x2, h2, hok, hm⟩
      rw [show e.b = false from z] at hb
      cases hb
    · rw [if_neg hij] at hj
      have hfm := List.mem_of_getElem? hj
      exact (((h.at_ f hfm).keepB hn ha x (fun fb z => hij (h.dis i j e f hi hj hb fb z.symm))).ex x2).keepL xl (h.ln f hfm).1 (h.ln f hfm).2
  · obtain ⟨j, hj⟩ := List.mem_iff_getElem?.mp hf
    rw [List.getElem?_set] at hj
    by_cases hij : i = j
    · rw [if_pos hij, if_pos (by omega)] at hj
      cases hj
      exact ⟨p1, p2⟩
    · rw [if_neg hij] at hj
      exact h.ln f (List.mem_of_getElem? hj)
  · have low : ∀ (j : Nat) (f : En), (es.set i { e with l := p, xs := zs, ls := ms })[j]? = some f → ∃ f0, es[j]? = some f0 ∧ f0.b = f.b ∧ f0.a = f.a := fun j f hj => by
      rw [List.getElem?_set] at hj
      by_cases hij : i = j
      · rw [if_pos hij, if_pos (by omega)] at hj
        cases hj
        subst hij
        exact ⟨e, hi, rfl, rfl⟩
      · rw [if_neg hij] at hj
        exact ⟨f, hj, rfl, rfl⟩
    obtain ⟨f0, hj0, b0, a0⟩ := low j f hj
    obtain ⟨g0, hk0, b1, a1⟩ := low k g hk
    exact h.dis j k f0 g0 hj0 hk0 (b0.trans fb) (b1.trans gb) (a0.trans (hh.trans a1.symm))
end
/-! lists of labels, compared -/
theorem sh_ints (ls : List Int) : SeqAt.shaped (.list (ls.map PyData.int)) = true := by
  have h : ∀ ms : List Int, PyData.canLayAll0 (ms.map PyData.int) = true ∧ PyData.depthAll (ms.map PyData.int) = 0 := fun ms => by
    induction ms with
    | nil => exact ⟨by simp [PyData.canLayAll0], by simp [PyData.depthAll]⟩
    | cons m ms ih => exact ⟨by simp [PyData.canLayAll0, PyData.canLay0, ih.1], by simp [PyData.depthAll, PyData.depth, ih.2]⟩
  simp [SeqAt.shaped, PyData.canLay0, PyData.depth, (h ls).1, (h ls).2]
theorem dp_ints {K : PySem.W.Frag} {H : Hp} {l : Addr} {ls : List Int} (h : SqL K H l (ls.map V.int)) : Dp K H (.ref l) (.list (ls.map PyData.int)) := by
  refine .lst h ?_
  have g : ∀ ms : List Int, DpAll K H (ms.map V.int) (ms.map PyData.int) := fun ms => by
    induction ms with
    | nil => exact .nil
    | cons m ms ih => exact .cons (.int m) ih
  exact g ls
theorem rv_eqLs {K : PySem.W.Frag} {H : Hp} {a b : Addr} {ls ms : List Int} (ha : SqL K H a (ls.map V.int)) (hb : SqL K H b (ms.map V.int)) : RV (rEqD K) (.ref a) (.ref b) H (.bl (decide (ls = ms))) := fun H1 e Q q =>
  ⟨_, _, dp_ints (ex_l e ha), dp_ints (ex_l e hb), sh_ints ls, sh_ints ms, by
    have : PyData.eqv (.list (ls.map PyData.int)) (.list (ms.map PyData.int)) = decide (ls = ms) := by
      simp only [PyData.eqv]
      exact PySem.W.ked_eqvAll ls ms
    rw [this]
    exact q H1 (Ex.refl H1)⟩
end Fs

set_option Elab.async false
set_option linter.all false
set_option maxRecDepth 100000
set_option maxHeartbeats 8000000
/-! one step of the law -/
namespace Fs
open PySem L2 Evl FsE FsC FsR FsA FsQ FsK FsW FsS
theorem row_getK {row : List Int} {i : Nat} (hr : RowOk row) (hi : i < row.length) : ∃ v, atI (row.map V.int) (i : Int) = some (.int v) ∧ 0 ≤ v ∧ v < 1000 := by
  refine ⟨row[i], atI_nat (by rw [List.getElem?_map, List.getElem?_eq_getElem hi]; rfl), ?_⟩
  exact hr _ (List.getElem_mem hi)
section
variable {σ : L2.St} {H : Hp} {ta tb te tn : TE} {tz : TS} {D : Ends} {K : PySem.W.Frag} {C N nl ll : Addr} {es : List En} {e : En} {i : Nat} {E : L2.St → XK}
theorem ev_net (st : StAt C N H nl ll es) (ha : Ev ta σ H (.ref nl)) (hb : Ev tb σ H (.int (i : Int))) (hi : es[i]? = some e) : Ev (tOp (rIxT K) (tOp (rIxL K) ta tb) (tC (.int 0))) σ H (.ref e.a) :=
  ev_op (ev_op ha hb (rv_ixL (sq_of st.hnl) (atI_nat (StAt.nt hi)))) ev_c (rv_ixT (st_of (st.at_ e (List.mem_of_getElem? hi)).tp) rfl)
theorem ev_flag (st : StAt C N H nl ll es) (ha : Ev ta σ H (.ref nl)) (hb : Ev tb σ H (.int (i : Int))) (hi : es[i]? = some e) : Ev (tOp (rIxT K) (tOp (rIxL K) ta tb) (tC (.int 1))) σ H (.bl e.b) :=
  ev_op (ev_op ha hb (rv_ixL (sq_of st.hnl) (atI_nat (StAt.nt hi)))) ev_c (rv_ixT (st_of (st.at_ e (List.mem_of_getElem? hi)).tp) rfl)
theorem ev_lab {xs : List V} (h : H ll = some (.lst xs)) (ha : Ev ta σ H (.ref ll)) (hb : Ev tb σ H (.int (i : Int))) {v : V} (hi : xs[i]? = some v) : Ev (tOp (rIxL K) ta tb) σ H v :=
  ev_op ha hb (rv_ixL (sq_of h) (atI_nat hi))
theorem sp_is {a l : Addr} {xs : List V} {ls : List Int} (h1 : NtAt N H a xs) (h2 : PrsAt C H xs (ls.map pL)) (h3 : H l = some (.lst (ls.map V.int))) (h4 : LbOk ls) (h5 : ls.length ≤ 100) : SpV (spIs K C N) [.ref a, .ref l] H (.bl true) := fun H1 e Q q E => ⟨a, l, xs, ls, rfl, h1.ex e, h2.ex e, e _ _ h3, h4, h5, q⟩
theorem q_setLL {l : Addr} {xs ys : List V} {j : Nat} (hl : H l = some (.lst xs)) (h : EvL te σ H ys) (ho : Ev ta σ H (.ref l)) (hi : Ev tb σ H (.int (j : Int))) (hj : j < xs.length) (k : ∀ p H1, H p = none → Ex H H1 → H1 p = some (.lst ys) → tz D σ (upd H1 l (.lst (xs.set j (.ref p))))) : tSeq (tAsg te (gSub ta tb rSetL)) tz D σ H :=
  h H (Ex.refl H) _ fun p H1 hp e1 h1 => ho H1 e1 _ fun H2 e2 => hi H2 (e1.trans e2) _ fun H3 e3 => ⟨l, xs, (j : Int), j, rfl, rfl, ((e1.trans e2).trans e3) l _ hl, ixN_nat hj, k p H3 hp ((e1.trans e2).trans e3) ((e2.trans e3) _ _ h1)⟩
theorem el_cat2 {l b : Addr} {xs ys : List V} (ha : Ev ta σ H (.ref l)) (hl : H l = some (.lst xs)) (hb : Ev tb σ H (.ref b)) (hb' : H b = some (.lst ys)) (hz : xs.length + ys.length ≤ 100000) : EvL (tOp rCat ta tb) σ H (xs ++ ys) := fun H1 e Q q =>
  ha H1 e _ fun H2 e2 => hb H2 (e.trans e2) _ fun H3 e3 => ⟨l, b, xs, ys, rfl, rfl, ((e.trans e2).trans e3) _ _ hl, ((e.trans e2).trans e3) _ _ hb', sz_of hz, fun r hr => q r _ (fresh_back (e2.trans e3) hr) ((e2.trans e3).trans (Ex.new hr)) upd_same⟩
theorem el_rep2 {l : Addr} {xs : List V} {k : Int} (ha : Ev ta σ H (.ref l)) (hl : H l = some (.lst xs)) (hb : Ev tb σ H (.int k)) (h0 : 0 ≤ k ∧ k ≤ 1000) (hz : xs.length ≤ 100) : EvL (tOp rRep ta tb) σ H (List.replicate k.toNat xs).flatten := fun H1 e Q q =>
  ha H1 e _ fun H2 e2 => hb H2 (e.trans e2) _ fun H3 e3 => ⟨l, k, xs, rfl, rfl, ((e.trans e2).trans e3) _ _ hl, by omega, by omega, sz_of (by
    have h1 : k.toNat ≤ 1000 := by omega
    exact Nat.le_trans (Nat.mul_le_mul hz h1) (by decide)), fun r hr => q r _ (fresh_back (e2.trans e3) hr) ((e2.trans e3).trans (Ex.new hr)) upd_same⟩
theorem el_repN {xs : List V} {k : Int} (ha : EvL ta σ H xs) (hb : ∀ H1, Ex H H1 → Ev tb σ H1 (.int k)) (h0 : 0 ≤ k ∧ k ≤ 1000) (hz : xs.length ≤ 100) : EvL (tOp rRep ta tb) σ H (List.replicate k.toNat xs).flatten := fun H1 e Q q =>
  ha H1 e _ fun l H2 _ e2 h2 => hb H2 (e.trans e2) H2 (Ex.refl H2) _ fun H3 e3 => ⟨l, k, xs, rfl, rfl, e3 _ _ h2, by omega, by omega, sz_of (by
    have h1 : k.toNat ≤ 1000 := by omega
    exact Nat.le_trans (Nat.mul_le_mul hz h1) (by decide)), fun r hr => q r _ (fresh_back (e2.trans e3) hr) ((e2.trans e3).trans (Ex.new hr)) upd_same⟩
/-- net, field = _law_extended(a, b) -/
theorem q_ext {i j : Nat} {a b : Addr} {xs ys : List V} (ha : Ev ta σ H (.ref a)) (hb : Ev tb σ H (.ref b)) (na : NtAt N H a xs) (mb : MbAt C N H b ys) (lx : xs.length ≤ 40) (ly : ys.length ≤ 40)
    (k1 : (xs ++ ys).length ≤ 6 → ∀ H1, ExB a H H1 → NtAt N H1 a (xs ++ ys) → tz D ((σ.set i (some (.ref a))).set j (some (.str ""))) H1) (k2 : 6 < (xs ++ ys).length → ∀ H1, Ex H H1 → tz D ((σ.set i (some (.ref a))).set j (some (.str "machines"))) H1) :
    tSeq (tAsg (tCallS (spExt C N) E (tCons ta (tCons tb tNil))) (gTup K 2 (gCons (gName i) (gCons (gName j) gNil)))) tz D σ H :=
  ha H (Ex.refl H) _ fun H1 e1 => hb H1 e1 _ fun H2 e2 => ⟨a, b, xs, ys, rfl, na.ex (e1.trans e2), mb.ex (e1.trans e2), lx, ly, fun hz t H3 ht e3 n3 h3 => ⟨t, _, rfl, st_of h3, rfl, _, _, rfl, _, _, rfl, rfl, k1 hz H3 ((ExB.of (e1.trans e2)).trans e3) n3⟩, fun hz t H3 ht e3 h3 => ⟨t, _, rfl, st_of h3, rfl, _, _, rfl, _, _, rfl, rfl, k2 hz H3 ((e1.trans e2).trans e3)⟩⟩
theorem s_tried {i j : Nat} {zs : List V} {H2 : Hp} (e2 : Ex H H2) (k1 : zs.length ≤ 6 → ∀ r H1, H r = none → Ex H H1 → NtAt N H1 r zs → D.nx ((σ.set i (some (.ref r))).set j (some (.str ""))) H1) (k2 : 6 < zs.length → ∀ r H1, Ex H H1 → D.nx ((σ.set i (some (.ref r))).set j (some (.str "machines"))) H1) :
    Tried N zs H2 (fun v H3 => gTup K 2 (gCons (gName i) (gCons (gName j) gNil)) v σ H3 D.nx) :=
  ⟨fun hz t r H3 ht hr e3 h3 n3 => ⟨t, _, rfl, st_of h3, rfl, _, _, rfl, _, _, rfl, rfl, k1 hz r H3 (fresh_back e2 hr) (e2.trans e3) n3⟩, fun hz t r H3 ht e3 h3 => ⟨t, _, rfl, st_of h3, rfl, _, _, rfl, _, _, rfl, rfl, k2 hz r H3 (e2.trans e3)⟩⟩
theorem s_joinT {i j : Nat} {a b : Addr} {xs ys : List V} (ha : Ev ta σ H (.ref a)) (hb : Ev tb σ H (.ref b)) (ma : MbAt C N H a xs) (mb : MbAt C N H b ys) (lx : xs.length ≤ 40) (ly : ys.length ≤ 40)
    (k1 : (xs ++ ys).length ≤ 6 → ∀ r H1, H r = none → Ex H H1 → NtAt N H1 r (xs ++ ys) → D.nx ((σ.set i (some (.ref r))).set j (some (.str ""))) H1) (k2 : 6 < (xs ++ ys).length → ∀ r H1, Ex H H1 → D.nx ((σ.set i (some (.ref r))).set j (some (.str "machines"))) H1) :
    tAsg (tCallS (spJoined C N) E (tCons ta (tCons tb tNil))) (gTup K 2 (gCons (gName i) (gCons (gName j) gNil))) D σ H :=
  ha H (Ex.refl H) _ fun H1 e1 => hb H1 e1 _ fun H2 e2 => ⟨a, b, xs, ys, rfl, ma.ex (e1.trans e2), mb.ex (e1.trans e2), lx, ly, s_tried (e1.trans e2) k1 k2⟩
theorem s_timesT {i j : Nat} {m : Int} {b : Addr} {xs : List V} (ha : Ev ta σ H (.int m)) (hb : Ev tb σ H (.ref b)) (mb : MbAt C N H b xs) (lx : xs.length ≤ 40)
    (k1 : (reps m xs).length ≤ 6 → ∀ r H1, H r = none → Ex H H1 → NtAt N H1 r (reps m xs) → D.nx ((σ.set i (some (.ref r))).set j (some (.str ""))) H1) (k2 : 6 < (reps m xs).length → ∀ r H1, Ex H H1 → D.nx ((σ.set i (some (.ref r))).set j (some (.str "machines"))) H1) :
    tAsg (tCallS (spTimes C N) E (tCons ta (tCons tb tNil))) (gTup K 2 (gCons (gName i) (gCons (gName j) gNil))) D σ H :=
  ha H (Ex.refl H) _ fun H1 e1 => hb H1 e1 _ fun H2 e2 => ⟨m, b, xs, rfl, mb.ex (e1.trans e2), lx, s_tried (e1.trans e2) k1 k2⟩
theorem s_listT {i j : Nat} {l : Addr} {ls : List Int} (ha : Ev ta σ H (.ref l)) (hl : H l = some (.lst (ls.map V.int))) (ok : LbOk ls) (lz : ls.length ≤ 90)
    (k1 : ls.length ≤ 6 → ∀ r xs H1, H r = none → Ex H H1 → NtAt N H1 r xs → PrsAt C H1 xs (ls.map pL) → D.nx ((σ.set i (some (.ref r))).set j (some (.str ""))) H1) (k2 : 6 < ls.length → ∀ r H1, Ex H H1 → D.nx ((σ.set i (some (.ref r))).set j (some (.str "machines"))) H1) :
    tAsg (tCallS (spListed K C N) E (tCons ta tNil)) (gTup K 2 (gCons (gName i) (gCons (gName j) gNil))) D σ H :=
  ha H (Ex.refl H) _ fun H1 e1 => ⟨l, ls, rfl, sq_of (e1 _ _ hl), ok, lz, fun hz t r xs H3 ht e3 h3 n3 p3 hr => ⟨t, _, rfl, st_of h3, rfl, _, _, rfl, _, _, rfl, rfl, k1 hz r xs H3 (fresh_back e1 hr) (e1.trans e3) n3 p3⟩, fun hz t r H3 ht e3 h3 => ⟨t, _, rfl, st_of h3, rfl, _, _, rfl, _, _, rfl, rfl, k2 hz r H3 (e1.trans e3)⟩⟩
end
/-- how many times, and what labels are due -/
def dueB (m : Int) (ls : List Int) : List Int := if m < 5 ∨ ls = [] then (List.replicate (m % 5).toNat ls).flatten else List.replicate 7 0
theorem reps_len (m : Int) (xs : List V) : (reps m xs).length = (max 0 (min m 7)).toNat * xs.length := by
  unfold reps
  rw [List.length_flatten]
  simp
theorem rep_len {α : Type} (n : Nat) (xs : List α) : (List.replicate n xs).flatten.length = n * xs.length := by
  rw [List.length_flatten]
  simp
theorem rep_nil {α : Type} (n : Nat) : (List.replicate n ([] : List α)).flatten = [] := by
  apply List.eq_nil_of_length_eq_zero
  rw [rep_len]
  simp
theorem dueB_le {m : Int} {ls : List Int} {xs : List V} (h0 : 0 ≤ m) (h5 : m < 5 ∨ m = 10 ^ 40) (hx : xs.length = ls.length) (hl : ls.length ≤ 6) : ((dueB m ls).length ≤ 6 ↔ (reps m xs).length ≤ 6) ∧ (dueB m ls).length ≤ 100 := by
  rw [reps_len, hx]
  unfold dueB
  by_cases hm : m < 5
  · rw [if_pos (.inl hm), rep_len]
    have e1 : (m % 5).toNat = m.toNat := by rw [Int.emod_eq_of_lt h0 hm]
    have e2 : (max 0 (min m 7)).toNat = m.toNat := by omega
    rw [e1, e2]
    refine ⟨Iff.rfl, ?_⟩
    have : m.toNat ≤ 4 := by omega
    exact Nat.le_trans (Nat.mul_le_mul this hl) (by decide)
  · by_cases hn : ls = []
    · subst hn
      rw [if_pos (.inr rfl), rep_nil]
      exact ⟨by simp, by simp⟩
    · rw [if_neg (fun z => z.elim hm hn), List.length_replicate]
      have hp : 0 < ls.length := List.length_pos_iff.mpr hn
      have e2 : (max 0 (min m 7)).toNat = 7 := by omega
      rw [e2]
      refine ⟨⟨fun z => by omega, fun z => by omega⟩, by decide⟩
theorem dueB_ok {m : Int} {ls : List Int} (h : LbOk ls) : LbOk (dueB m ls) := fun l hl => by
  unfold dueB at hl
  by_cases hm : m < 5 ∨ ls = []
  · rw [if_pos hm] at hl
    obtain ⟨y, hy, hy'⟩ := List.mem_flatten.mp hl
    rw [(List.mem_replicate.mp hy).2] at hy'
    exact h l hy'
  · rw [if_neg hm] at hl
    rw [(List.mem_replicate.mp hl).2]
    decide
theorem map_rep {α β : Type} (f : α → β) (n : Nat) (xs : List α) : ((List.replicate n xs).flatten).map f = (List.replicate n (xs.map f)).flatten := by
  rw [List.map_flatten, List.map_replicate]
theorem dueB_prs {C : Addr} {H : Hp} {m : Int} {ls : List Int} {xs : List V} (h0 : 0 ≤ m) (h5 : m < 5 ∨ m = 10 ^ 40) (hp : PrsAt C H xs (ls.map pL)) (hz : (dueB m ls).length ≤ 6) : PrsAt C H (reps m xs) ((dueB m ls).map pL) := by
  unfold dueB at hz ⊢
  by_cases hm : m < 5
  · rw [if_pos (.inl hm), map_rep]
    have e1 : (m % 5).toNat = m.toNat := by rw [Int.emod_eq_of_lt h0 hm]
    have e2 : (max 0 (min m 7)).toNat = m.toNat := by omega
    unfold reps
    rw [e1, e2]
    exact hp.rep _
  · by_cases hn : ls = []
    · subst hn
      have hx : xs = [] := by
        have := hp.len
        simp at this
        exact this
      subst hx
      rw [if_pos (.inr rfl), rep_nil]
      unfold reps
      rw [rep_nil]
      exact True.intro
    · rw [if_neg (fun z => z.elim hm hn), List.length_replicate] at hz
      omega
/-- what the step has got ahead of its end -/
def Got (C N : Addr) (H H' : Hp) (r dl : Addr) (f : Str) (due : List Int) : Prop := Ex H H' ∧ H dl = none ∧ H' dl = some (.lst (due.map V.int)) ∧ LbOk due ∧ due.length ≤ 100 ∧ ((due.length ≤ 6 ∧ f = "" ∧ H r = none ∧ ∃ xs, NtAt N H' r xs ∧ PrsAt C H' xs (due.map pL)) ∨ (6 < due.length ∧ f = "machines"))
def spStep (K : PySem.W.Frag) (C N : Addr) : Sp := fun vs H Q _ => ∃ (rl nl ll : Addr) (at_ k : Nat) (row : List Int) (es : List En), vs = [.ref rl, .int (at_ : Int), .ref nl, .ref ll, .int (k : Int)] ∧ H rl = some (.lst (row.map V.int)) ∧ RowOk row ∧ at_ + 2 < row.length ∧ k ≤ 20 ∧ StAt C N H nl ll es ∧ 1 ≤ es.length ∧ es.length ≤ 50 ∧ rl ≠ nl ∧ rl ≠ ll ∧
  ∀ es' H', StAt C N H' nl ll es' → H' rl = some (.lst (row.map V.int)) → es.length ≤ es'.length → es'.length ≤ es.length + 1 → Q (.bl true) H'
abbrev nsSt : List Str := ["_law_row_here", "_law_at", "_law_nets", "_law_labels", "_law_k", "_law_way", "_law_one", "_law_two", "_law_net", "_law_field", "_law_due", "_law_many", "_law_j"]
theorem scSt : FnScope nsSt ["_law_row_here", "_law_at", "_law_nets", "_law_labels", "_law_k"] (defScope (topS 42)) := ⟨rfl, rfl, rfl, by decide +kernel, rfl, by decide +kernel, by decide +kernel⟩
end Fs

set_option Elab.async false
set_option linter.all false
set_option maxRecDepth 100000
set_option maxHeartbeats 16000000
/-! one step of the law -/
namespace Fs
open PySem L2 Evl FsE FsC FsR FsA FsQ FsK FsW FsS
section
variable {P : Program} {w : World} {K : PySem.W.Frag} {mg : Str → Option Value} {base : Heap} {C N CB : Addr}
theorem nt_ne (T : NetT K mg C N) : C ≠ N := fun z => by
  have h := T.kPN
  rw [z, kOwn] at h
  cases h
theorem ok_step {f : Addr} {fd : FuncData} {k : Nat} (hk : 4 ≤ k) (F : Fun K "_law_step" "_law_step" (topS 42) f fd) (L : LawT K mg) (T : NetT K mg C N) (GI : CalX P w K mg base CX0 4 "_law_is" (spIs K C N)) (GJ : CalX P w K mg base CX0 k "_law_joined" (spJoined C N)) (GT : CalX P w K mg base CX0 k "_law_times" (spTimes C N))
    (GL : CalX P w K mg base CX0 k "_law_listed" (spListed K C N)) (GE : CalX P w K mg base CX0 k "_law_extended" (spExt C N)) : FnOk P w K mg base CX0 (k + 1) f fd ["_law_row_here", "_law_at", "_law_nets", "_law_labels", "_law_k"] (spStep K C N) := by
  refine F.ok scSt (fun vs H Q E h => ?_) (fun cdv A outer s H vs Q E hr h => ?_)
  · obtain ⟨rl, nl, ll, at_, k9, row, es, rfl, _⟩ := h
    rfl
  · obtain ⟨rl, nl, ll, at_, k9, row, es, rfl, hrow, hok, hlt, hk9, st, z1, z2, n1, n2, q⟩ := h
    refine ⟨_, pss_cons (ps_set (i := 5) scSt.nd rfl (Or.inl rfl) (pe_op op_mod (pe_callTy call_int1 (by rfl) L.int (by decide +kernel) (pa_cons (pe_ix ix_list (pv 0) (pv 1) (fun _ _ => rfl)) pa_nil)) pe_int))
      (pss_cons (ps_set (i := 6) scSt.nd rfl (Or.inl rfl) (pe_op op_mod (pe_callTy call_int1 (by rfl) L.int (by decide +kernel) (pa_cons (pe_ix ix_list (pv 0) (pe_op op_add (pv 1) pe_int) (fun _ _ => rfl)) pa_nil)) (pe_callB call_len_seq (by rfl) L.len PySem.boot_len (pa_cons (pv 2) pa_nil))))
      (pss_cons (ps_set (i := 7) scSt.nd rfl (Or.inl rfl) (pe_op op_mod (pe_callTy call_int1 (by rfl) L.int (by decide +kernel) (pa_cons (pe_ix ix_list (pv 0) (pe_op op_add (pv 1) pe_int) (fun _ _ => rfl)) pa_nil)) (pe_callB call_len_seq (by rfl) L.len PySem.boot_len (pa_cons (pv 2) pa_nil))))
      (pss_cons (ps_if (PW.pt (pw_and (pt_cmpR op_eq (pv 5) pe_int (nomark _)) (pw_and1 (pt_val (pe_ix ix_tup (pe_ix ix_list (pv 2) (pv 6) (fun _ _ => rfl)) pe_int (fun _ _ => rfl))))))
        (pss_cons (ps_set (i := 7) scSt.nd rfl (Or.inl rfl) (pe_ifExp (pt_cmpR op_eq (pe_op op_mod (pe_op op_fdiv (pe_ix ix_list (pv 0) (pe_op op_add (pv 1) pe_int) (fun _ _ => rfl)) pe_int) pe_int) pe_int (nomark _)) (pv 6) (pv 7)))
        (pss_cons (ps_asg (pe_cx (E := fun _ => E0) GE hr (Nat.le_refl _) (by rfl) at0 (pa_cons (pe_ix ix_tup (pe_ix ix_list (pv 2) (pv 6) (fun _ _ => rfl)) pe_int (fun _ _ => rfl)) (pa_cons (pe_ix ix_tup (pe_ix ix_list (pv 2) (pv 7) (fun _ _ => rfl)) pe_int (fun _ _ => rfl)) pa_nil))) (pg_tup rfl (pgs_cons (pg_name (i := 8) scSt.nd rfl (.inl rfl)) (pgs_cons (pg_name (i := 9) scSt.nd rfl (.inl rfl)) pgs_nil))))
        (pss_cons (ps_if (pt_cmpR op_gt (pe_op op_add (pe_callB call_len_seq (by rfl) L.len PySem.boot_len (pa_cons (pe_ix ix_list (pv 3) (pv 6) (fun _ _ => rfl)) pa_nil)) (pe_callB call_len_seq (by rfl) L.len PySem.boot_len (pa_cons (pe_ix ix_list (pv 3) (pv 7) (fun _ _ => rfl)) pa_nil))) pe_int (nomark _))
            (pss_one (ps_ret (pe_and (pe_cmpR op_eq (pv 9) pe_str (nomark _)) (pe_one (pe_cx (E := fun _ => E0) GI hr (by omega) (by rfl) at0 (pa_cons (pe_ix ix_tup (pe_ix ix_list (pv 2) (pv 6) (fun _ _ => rfl)) pe_int (fun _ _ => rfl)) (pa_cons (pe_ix ix_list (pv 3) (pv 6) (fun _ _ => rfl)) pa_nil))))))) pss_nil)
        (pss_cons (ps_asg (pe_op op_cat (pe_ix ix_list (pv 3) (pv 6) (fun _ _ => rfl)) (pe_ix ix_list (pv 3) (pv 7) (fun _ _ => rfl))) (pg_sub (pv 3) (pv 6) set_list))
        (pss_one (ps_ret (pe_and (pe_cmpR op_eq (pv 9) pe_str (nomark _)) (pe_and (pe_cx (E := fun _ => E0) GI hr (by omega) (by rfl) at0 (pa_cons (pv 8) (pa_cons (pe_ix ix_list (pv 3) (pv 6) (fun _ _ => rfl)) pa_nil)))
          (pe_one (pe_cx (E := fun _ => E0) GI hr (by omega) (by rfl) at0 (pa_cons (pe_ix ix_tup (pe_ix ix_list (pv 2) (pv 6) (fun _ _ => rfl)) pe_int (fun _ _ => rfl)) (pa_cons (pe_ix ix_list (pv 3) (pv 6) (fun _ _ => rfl)) pa_nil))))))))))))  pss_nil)
      (pss_cut (ps_if (PW.pt (pw_or (pt_cmpR op_lt (pv 5) pe_int (nomark _)) (pw_or1 (pt_cmpR op_eq (pv 5) pe_int (nomark _)))))
        (pss_cons (ps_set (i := 10) scSt.nd rfl (Or.inl rfl) (pe_op op_cat (pe_ix ix_list (pv 3) (pv 6) (fun _ _ => rfl)) (pe_ix ix_list (pv 3) (pv 7) (fun _ _ => rfl))))
        (pss_one (ps_asg (pe_cx (E := fun _ => E0) GJ hr (Nat.le_refl _) (by rfl) at0 (pa_cons (pe_ix ix_tup (pe_ix ix_list (pv 2) (pv 6) (fun _ _ => rfl)) pe_int (fun _ _ => rfl)) (pa_cons (pe_ix ix_tup (pe_ix ix_list (pv 2) (pv 7) (fun _ _ => rfl)) pe_int (fun _ _ => rfl)) pa_nil))) (pg_tup rfl (pgs_cons (pg_name (i := 8) scSt.nd rfl (.inl rfl)) (pgs_cons (pg_name (i := 9) scSt.nd rfl (.inl rfl)) pgs_nil))))))
        (pss_one (ps_if (pt_cmpR op_eq (pv 5) pe_int (nomark _))
          (pss_cons (ps_set (i := 11) scSt.nd rfl (Or.inl rfl) (pe_op op_mod (pe_op op_fdiv (pe_ix ix_list (pv 0) (pe_op op_add (pv 1) pe_int) (fun _ _ => rfl)) pe_int) pe_int))
          (pss_cons (ps_if (pt_cmpR op_eq (pv 11) pe_int (nomark _)) (pss_one (ps_set (i := 11) scSt.nd rfl (Or.inl rfl) (pe_op op_pow pe_int pe_int))) pss_nil)
          (pss_cons (ps_set (i := 10) scSt.nd rfl (Or.inl rfl) (pe_op op_rep (pe_lst (pa_cons pe_int pa_nil)) pe_int))
          (pss_cons (ps_if (PW.pt (pw_or (pt_cmpR op_lt (pv 11) pe_int (nomark _)) (pw_or1 (pt_cmpR (op_eqD hr.units) (pe_ix ix_list (pv 3) (pv 6) (fun _ _ => rfl)) (pe_lst pa_nil) (nomark _)))))
            (pss_one (ps_set (i := 10) scSt.nd rfl (Or.inl rfl) (pe_op op_rep (pe_ix ix_list (pv 3) (pv 6) (fun _ _ => rfl)) (pe_callTy call_int1 (by rfl) L.int (by decide +kernel) (pa_cons (pe_op op_mod (pe_callTy call_int1 (by rfl) L.int (by decide +kernel) (pa_cons (pv 11) pa_nil)) pe_int) pa_nil))))) pss_nil)
          (pss_one (ps_asg (pe_cx (E := fun _ => E0) GT hr (Nat.le_refl _) (by rfl) at0 (pa_cons (pv 11) (pa_cons (pe_ix ix_tup (pe_ix ix_list (pv 2) (pv 6) (fun _ _ => rfl)) pe_int (fun _ _ => rfl)) pa_nil))) (pg_tup rfl (pgs_cons (pg_name (i := 8) scSt.nd rfl (.inl rfl)) (pgs_cons (pg_name (i := 9) scSt.nd rfl (.inl rfl)) pgs_nil)))))))))
          (pss_cons (ps_setLc (i := 10) (own := [("_law_j", 12)]) (g := gName 12) (tt := tYes) rfl scSt.nd rfl rfl (sw_true rfl rfl rfl (by decide +kernel)) (pi_range1 rfl L.range (pa_cons (pe_op op_mod (pe_callTy call_int1 (by rfl) L.int (by decide +kernel) (pa_cons (pe_ix ix_list (pv 0) (pe_op op_add (pv 1) pe_int) (fun _ _ => rfl)) pa_nil)) pe_int) pa_nil)) (blkOk_by (own := [("_law_j", 12)]) (N := nsSt) (sc := defScope (topS 42)) (by decide +kernel))
              (fun _ _ _ _ _ => pg_name (i := 12) scSt.nd rfl (.inl rfl)) (fun _ _ _ _ _ => pts_nil) (fun _ _ _ _ _ => pe_op op_add (pe_op op_mul pe_int (pv 4)) (pv 12)))
          (pss_one (ps_asg (pe_cx (E := fun _ => E0) GL hr (Nat.le_refl _) (by rfl) at0 (pa_cons (pv 10) pa_nil)) (pg_tup rfl (pgs_cons (pg_name (i := 8) scSt.nd rfl (.inl rfl)) (pgs_cons (pg_name (i := 9) scSt.nd rfl (.inl rfl)) pgs_nil)))))))))
      (pss_cons (ps_if (pt_cmpR op_gt (pe_callB call_len_seq (by rfl) L.len PySem.boot_len (pa_cons (pv 10) pa_nil)) pe_int (nomark _)) (pss_one (ps_ret (pe_cmpR op_eq (pv 9) pe_str (nomark _)))) pss_nil)
      (pss_cons (ps_expr (pe_bm PySem.F.plainAttrs_list PySem.F.slot_list_append PySem.F.type_list_append mt_append (pv 2) (pa_cons (pe_tup (pa_cons (pv 8) (pa_cons pe_bl pa_nil))) pa_nil)))
      (pss_cons (ps_expr (pe_bm PySem.F.plainAttrs_list PySem.F.slot_list_append PySem.F.type_list_append mt_append (pv 3) (pa_cons (pv 10) pa_nil)))
      (pss_one (ps_ret (pe_and (pe_cmpR op_eq (pv 9) pe_str (nomark _)) (pe_one (pe_cx (E := fun _ => E0) GI hr (by omega) (by rfl) at0 (pa_cons (pv 8) (pa_cons (pv 10) pa_nil)))))))))))))), ?_⟩
    obtain ⟨x0, g0, b0, c0⟩ := row_getK hok (i := at_) (by omega)
    obtain ⟨x1, g1, b1, c1⟩ := row_getK hok (i := at_ + 1) (by omega)
    obtain ⟨x2, g2, b2, c2⟩ := row_getK hok (i := at_ + 2) (by omega)
    have m1 : ((at_ + 1 : Nat) : Int) = (at_ : Int) + 1 := by omega
    have m2 : ((at_ + 2 : Nat) : Int) = (at_ : Int) + 2 := by omega
    rw [m1] at g1
    rw [m2] at g2
    have hn := nt_ne T
    have len0 : ∀ {H9 : Hp} {σ : L2.St}, Ex H H9 → σ[2]? = some (some (.ref nl)) → Ev (tCB (fun xs H Q => ∃ p ys, xs = [V.ref p] ∧ (SqL K H p ys ∨ SqT K H p ys) ∧ Q (.int ys.length) H) (tCons (tVar 2) tNil)) σ H9 (.int (es.length : Int)) := fun e9 hs => by
      have := ev_lenA (K := K) (H := _) (xs := es.map fun e => V.ref e.t) (ev_var hs) (.inl (sq_of (e9 _ _ st.hnl)))
      rw [List.length_map] at this
      exact this
    refine q_asg (v := .int (x0 % 5)) (ev_op (x := .int x0) (ev_cb (ea_cons (ev_op (ev_var rfl) (ev_var rfl) (rv_ixL (sq_of hrow) g0)) ea_nil) (rc_int (K := K))) ev_c (rv_I (by decide))) (fun H1 e1 => ?_)
    refine q_asg (v := .int (x1 % (es.length : Int))) (ev_op (x := .int x1) (y := .int (es.length : Int)) (ev_cb (ea_cons (ev_op (ev_var rfl) (ev_op (ev_var rfl) ev_c rv_I0) (rv_ixL (sq_of (e1 _ _ hrow)) g1)) ea_nil) (rc_int (K := K))) (len0 e1 rfl) (rv_I (show (0 : Int) < (es.length : Int) by omega))) (fun H2 e2 => ?_)
    have e12 := e1.trans e2
    refine q_asg (v := .int (x2 % (es.length : Int))) (ev_op (x := .int x2) (y := .int (es.length : Int)) (ev_cb (ea_cons (ev_op (ev_var rfl) (ev_op (ev_var rfl) ev_c rv_I0) (rv_ixL (sq_of (e12 _ _ hrow)) g2)) ea_nil) (rc_int (K := K))) (len0 e12 rfl) (rv_I (show (0 : Int) < (es.length : Int) by omega))) (fun H3 e3 => ?_)
    have e13 := e12.trans e3
    obtain ⟨i, hi, ei⟩ : ∃ i : Nat, i < es.length ∧ x1 % (es.length : Int) = (i : Int) := ⟨(x1 % (es.length : Int)).toNat, by
      have h1 := Int.emod_nonneg x1 (b := (es.length : Int)) (by omega)
      have h2 := Int.emod_lt_of_pos x1 (b := (es.length : Int)) (by omega)
      omega, by
      have h1 := Int.emod_nonneg x1 (b := (es.length : Int)) (by omega)
      omega⟩
    obtain ⟨j, hj, ej⟩ : ∃ j : Nat, j < es.length ∧ x2 % (es.length : Int) = (j : Int) := ⟨(x2 % (es.length : Int)).toNat, by
      have h1 := Int.emod_nonneg x2 (b := (es.length : Int)) (by omega)
      have h2 := Int.emod_lt_of_pos x2 (b := (es.length : Int)) (by omega)
      omega, by
      have h1 := Int.emod_nonneg x2 (b := (es.length : Int)) (by omega)
      omega⟩
    rw [ei, ej]
    generalize hway : x0 % 5 = way
    have w0 : 0 ≤ way := by omega
    have w5 : way ≤ 4 := by omega
    obtain ⟨e, he⟩ : ∃ e, es[i]? = some e := ⟨es[i], List.getElem?_eq_getElem hi⟩
    have oe := st.at_ e (List.mem_of_getElem? he)
    have st3 := st.ex e13
    have cod : ∀ {x : Int} {n : Int}, decide (V.int x = V.int n) = true → x = n := fun h => by
      have := of_decide_eq_true h
      injection this
    refine q_when (b := decide (V.int way = V.int 4) && e.b) (et_and (et_test (ev_op (ev_var rfl) ev_c (rv_eq rfl))) (fun _ => et_B (ev_flag st3 (ev_var rfl) (ev_var rfl) he))) (fun hb H4 e4 => ?_) (fun hb H4 e4 => ?_)
    · have e14 := e13.trans e4
      have eb : e.b = true := (Bool.and_eq_true_iff.mp hb).2
      have st4 := st.ex e14
      refine q_asg (v := .int ((if V.int (x2 / 20 % 3) = V.int 0 then i else j : Nat) : Int)) (ev_if (b := decide (V.int (x2 / 20 % 3) = V.int 0)) (et_test (ev_op (ev_op (x := .int (x2 / 20)) (ev_op (ev_op (ev_var rfl) (ev_op (ev_var rfl) ev_c rv_I0) (rv_ixL (sq_of (e14 _ _ hrow)) g2)) ev_c (rv_I ⟨by decide, by decide⟩)) ev_c (rv_I (by decide))) ev_c (rv_eq rfl)))
        (fun hc => ev_is (ev_var rfl) (by rw [if_pos (of_decide_eq_true hc)])) (fun hc => ev_is (ev_var rfl) (by rw [if_neg (of_decide_eq_false hc)]))) (fun H5 e5 => ?_)
      generalize hjj : (if V.int (x2 / 20 % 3) = V.int 0 then i else j) = jj
      have hjl : jj < es.length := by
        rw [← hjj]
        split <;> assumption
      obtain ⟨g, hg⟩ : ∃ g, es[jj]? = some g := ⟨es[jj], List.getElem?_eq_getElem hjl⟩
      have e15 := e14.trans e5
      have st5 := st.ex e15
      have o := st5.at_ e (List.mem_of_getElem? he)
      have og := st5.at_ g (List.mem_of_getElem? hg)
      have lo := o.len
      have log := og.len
      have so := o.sz
      have sog := og.sz
      have hsum : (e.xs ++ g.xs).length = e.ls.length + g.ls.length := by rw [List.length_append]; omega
      have lens : ∀ {H9 : Hp} {σ : L2.St}, σ[3]? = some (some (.ref ll)) → σ[6]? = some (some (.int (i : Int))) → σ[7]? = some (some (.int (jj : Int))) → H9 ll = some (.lst (es.map fun e => V.ref e.l)) → H9 e.l = some (.lst (e.ls.map V.int)) → H9 g.l = some (.lst (g.ls.map V.int)) →
          EvT (tTest (tOp (rI0 fun i j => V.bl (decide (j < i))) (tOp (rI0 fun i j => V.int (i + j)) (tCB (fun xs H Q => ∃ p ys, xs = [V.ref p] ∧ (SqL K H p ys ∨ SqT K H p ys) ∧ Q (.int ys.length) H) (tCons (tOp (rIxL K) (tVar 3) (tVar 6)) tNil)) (tCB (fun xs H Q => ∃ p ys, xs = [V.ref p] ∧ (SqL K H p ys ∨ SqT K H p ys) ∧ Q (.int ys.length) H) (tCons (tOp (rIxL K) (tVar 3) (tVar 7)) tNil))) (tC (.int 6)))) σ H9 (decide ((6 : Int) < (e.ls.length : Int) + (g.ls.length : Int))) := fun s3 s6 s7 hll hel hgl => by
        have a1 := ev_lenA (K := K) (ev_lab (K := K) hll (ev_var s3) (ev_var s6) (StAt.lt he)) (.inl (sq_of hel))
        have a2 := ev_lenA (K := K) (ev_lab (K := K) hll (ev_var s3) (ev_var s7) (StAt.lt hg)) (.inl (sq_of hgl))
        rw [List.length_map] at a1 a2
        exact et_test (ev_op (ev_op a1 a2 rv_I0) ev_c rv_I0)
      refine q_ext (ev_net st5 (ev_var rfl) (ev_var rfl) he) (ev_net st5 (ev_var rfl) (ev_var rfl) hg) (o.nt eb) og.mb (by omega) (by omega) (fun hz H6 x6 n6 => ?_) (fun hz H6 x6 => ?_)
      · obtain ⟨dx, t, ha5, ht5⟩ := o.nt eb
        have keep : ∀ {b : Addr} {xs : List V}, H5 b = some (.lst xs) → H6 b = some (.lst xs) := fun {b xs} hb5 => x6 _ _ (fun z => by
          rw [z, ha5] at hb5
          cases hb5) hb5
        refine q_when (b := decide ((6 : Int) < (e.ls.length : Int) + (g.ls.length : Int))) (lens rfl rfl rfl (keep st5.hll) (keep o.lb) (keep og.lb)) (fun hb' => ?_) (fun _ H7 e7 => ?_)
        · have := of_decide_eq_true hb'
          omega
        have k7 := fun {b : Addr} {xs : List V} (hb5 : H5 b = some (.lst xs)) => e7 _ _ (keep hb5)
        refine q_setLL (j := i) (k7 st5.hll) (el_cat2 (ev_lab (K := K) (k7 st5.hll) (ev_var rfl) (ev_var rfl) (StAt.lt he)) (k7 o.lb) (ev_lab (K := K) (k7 st5.hll) (ev_var rfl) (ev_var rfl) (StAt.lt hg)) (k7 og.lb) (by rw [List.length_map, List.length_map]; omega)) (ev_var rfl) (ev_var rfl) (by rw [List.length_map]; exact hi) (fun p H8 hp e8 h8 => ?_)
        rw [← List.map_append] at h8
        have p1 : p ≠ nl := fun z => by
          rw [z, k7 st5.hnl] at hp
          cases hp
        have p2 : p ≠ ll := fun z => by
          rw [z, k7 st5.hll] at hp
          cases hp
        have okc : LbOk (e.ls ++ g.ls) := fun l hl => (List.mem_append.mp hl).elim (o.ok l) (og.ok l)
        have hpc : PrsAt C H5 (e.xs ++ g.xs) ((e.ls ++ g.ls).map pL) := by
          rw [List.map_append]
          exact o.ps.cat og.ps
        have fin := StAt.extd (zs := e.xs ++ g.xs) (ms := e.ls ++ g.ls) hn st5 he eb ha5 x6 n6 hpc okc (by rw [List.length_append]; omega) (e7.trans e8) h8 p1 p2
        generalize hes : es.set i { e with l := p, xs := e.xs ++ g.xs, ls := e.ls ++ g.ls } = es' at fin
        have he' : es'[i]? = some { e with l := p, xs := e.xs ++ g.xs, ls := e.ls ++ g.ls } := by
          rw [← hes, List.getElem?_set, if_pos rfl, if_pos hi]
        have o' := fin.at_ _ (List.mem_of_getElem? he')
        have hrow8 : (upd H8 ll (.lst ((es.map fun e => V.ref e.l).set i (.ref p)))) rl = some (.lst (row.map V.int)) := by
          rw [upd_ne n2]
          exact e8 _ _ (k7 (e15 _ _ hrow))
        have hlen' : es'.length = es.length := by rw [← hes, List.length_set]
        have isn : ∀ H9, Ex (upd H8 ll (.lst ((es.map fun e => V.ref e.l).set i (.ref p)))) H9 → SpV (spIs K C N) [.ref e.a, .ref p] H9 (.bl true) := fun H9 e9 => sp_is ((o'.nt eb).ex e9) (o'.ps.ex e9) (e9 _ _ o'.lb) o'.ok (by have := o'.sz; omega)
        refine s_ret (v := .bl true) (ev_is (ev_andV (a := true) (b := true) (ev_is (ev_op (x := .str "") (y := .str "") (ev_var rfl) ev_c (rv_eq rfl)) (by rw [decide_eq_true rfl])) (fun _ => ev_is (ev_andV (a := true) (b := true) (ev_cx (ea_cons (ev_var rfl) (ea_cons (ev_lab (K := K) fin.hll (ev_var rfl) (ev_var rfl) (StAt.lt he')) ea_nil)) (isn _ (Ex.refl _)))
          (fun _ => ev_cx (ea_cons (ev_net fin (ev_var rfl) (ev_var rfl) he') (ea_cons (ev_lab (K := K) fin.hll (ev_var rfl) (ev_var rfl) (StAt.lt he')) ea_nil)) (isn _ (Ex.refl _)))) rfl)) rfl) (fun H9 e9 => ?_)
        exact q es' H9 (fin.ex e9) (e9 _ _ hrow8) (by omega) (by omega)
      · refine q_when (b := decide ((6 : Int) < (e.ls.length : Int) + (g.ls.length : Int))) (lens rfl rfl rfl (x6 _ _ st5.hll) (x6 _ _ o.lb) (x6 _ _ og.lb)) (fun _ H7 e7 => ?_) (fun hb' => ?_)
        · have st7 := (st5.ex x6).ex e7
          have o7 := st7.at_ e (List.mem_of_getElem? he)
          refine s_ret (v := .bl true) (ev_is (ev_andV (a := true) (b := true) (ev_is (ev_op (x := .str "machines") (y := .str "machines") (ev_var rfl) ev_c (rv_eq rfl)) (by rw [decide_eq_true rfl])) (fun _ => ev_cx (ea_cons (ev_net st7 (ev_var rfl) (ev_var rfl) he) (ea_cons (ev_lab (K := K) st7.hll (ev_var rfl) (ev_var rfl) (StAt.lt he)) ea_nil)) (sp_is (o7.nt eb) o7.ps o7.lb o7.ok (by omega)))) rfl) (fun H9 e9 => ?_)
          exact q es H9 (st7.ex e9) (e9 _ _ (e7 _ _ (x6 _ _ (e15 _ _ hrow)))) (by omega) (by omega)
        · have := of_decide_eq_false hb'
          omega
    · have e14 := e13.trans e4
      have st4 := st.ex e14
      obtain ⟨g, hg⟩ : ∃ g, es[j]? = some g := ⟨es[j], List.getElem?_eq_getElem hj⟩
      have o := st4.at_ e (List.mem_of_getElem? he)
      have og := st4.at_ g (List.mem_of_getElem? hg)
      have lo := o.len
      have log := og.len
      have so := o.sz
      have sog := og.sz
      refine q_cut (M := fun σ' H' => ∃ (r dl : Addr) (fl : Str) (due : List Int) (v5 v6 v7 v11 v12 : Option V), σ' = [some (.ref rl), some (.int (at_ : Int)), some (.ref nl), some (.ref ll), some (.int (k9 : Int)), v5, v6, v7, some (.ref r), some (.str fl), some (.ref dl), v11, v12] ∧ Got C N H4 H' r dl fl due) ?_ (fun σ' H5 ⟨r, dl, fl, due, v5, v6, v7, v11, v12, hσ, hgot⟩ => ?_)
      · refine s_if (b := decide (way < 2) || decide (V.int way = V.int 4)) (et_or (et_test (ev_op (ev_var rfl) ev_c rv_I0)) (fun _ => et_test (ev_op (ev_var rfl) ev_c (rv_eq rfl)))) (fun _ H5 e5 => ?_) (fun hb5 H5 e5 => ?_)
        · refine q_asgL (xs := (e.ls ++ g.ls).map V.int) (by
            rw [List.map_append]
            exact el_cat2 (ev_lab (K := K) (e5 _ _ st4.hll) (ev_var rfl) (ev_var rfl) (StAt.lt he)) (e5 _ _ o.lb) (ev_lab (K := K) (e5 _ _ st4.hll) (ev_var rfl) (ev_var rfl) (StAt.lt hg)) (e5 _ _ og.lb) (by rw [List.length_map, List.length_map]; omega)) (fun dl H6 hd e6 h6 => ?_)
          have e46 := e5.trans e6
          have st6 := st4.ex e46
          have hsum : (e.xs ++ g.xs).length = (e.ls ++ g.ls).length := by rw [List.length_append, List.length_append]; omega
          have okc : LbOk (e.ls ++ g.ls) := fun l hl => (List.mem_append.mp hl).elim (o.ok l) (og.ok l)
          refine s_joinT (ev_net st6 (ev_var rfl) (ev_var rfl) he) (ev_net st6 (ev_var rfl) (ev_var rfl) hg) (st6.at_ e (List.mem_of_getElem? he)).mb (st6.at_ g (List.mem_of_getElem? hg)).mb (by omega) (by omega) (fun hz r H7 hr7 e7 n7 => ?_) (fun hz r H7 e7 => ?_)
          · exact ⟨r, dl, "", e.ls ++ g.ls, _, _, _, _, _, rfl, e46.trans e7, fresh_back e5 hd, e7 _ _ h6, okc, by rw [List.length_append]; omega, .inl ⟨by omega, rfl, fresh_back e46 hr7, _, n7, by
              rw [List.map_append]
              exact (o.ps.ex (e46.trans e7)).cat (og.ps.ex (e46.trans e7))⟩⟩
          · exact ⟨r, dl, "machines", e.ls ++ g.ls, _, _, _, _, _, rfl, e46.trans e7, fresh_back e5 hd, e7 _ _ h6, okc, by rw [List.length_append]; omega, .inr ⟨by omega, rfl⟩⟩
        · refine s_if (b := decide (V.int way = V.int 2)) (et_test (ev_op (ev_var rfl) ev_c (rv_eq rfl))) (fun _ H6 e6 => ?_) (fun _ H6 e6 => ?_)
          · have e46 := e5.trans e6
            refine q_asg (v := .int (x2 / 20 % 6)) (ev_op (x := .int (x2 / 20)) (ev_op (ev_op (ev_var rfl) (ev_op (ev_var rfl) ev_c rv_I0) (rv_ixL (sq_of ((e14.trans e46) _ _ hrow)) g2)) ev_c (rv_I ⟨by decide, by decide⟩)) ev_c (rv_I (by decide))) (fun H7 e7 => ?_)
            have mm : 0 ≤ x2 / 20 % 6 ∧ x2 / 20 % 6 ≤ 5 := by omega
            generalize x2 / 20 % 6 = m0 at mm
            refine q_ifAsg (b := decide (V.int m0 = V.int 5)) (v := .int (if m0 = 5 then (10 : Int) ^ (40 : Int).toNat else m0)) (et_test (ev_op (ev_var rfl) ev_c (rv_eq rfl))) (fun hb7 => ?_) (fun hb7 => ?_) (fun H8 e8 => ?_)
            · rw [if_pos (cod hb7)]
              exact ev_op ev_c ev_c (rv_I ⟨by decide, by decide, by decide⟩)
            · have : ¬ m0 = 5 := fun z => by
                rw [z] at hb7
                simp at hb7
              rw [if_neg this]
              rfl
            have hm : 0 ≤ (if m0 = 5 then (10 : Int) ^ (40 : Int).toNat else m0) ∧ ((if m0 = 5 then (10 : Int) ^ (40 : Int).toNat else m0) < 5 ∨ (if m0 = 5 then (10 : Int) ^ (40 : Int).toNat else m0) = 10 ^ 40) := by
              by_cases h5 : m0 = 5
              · rw [if_pos h5]
                exact ⟨by decide, .inr rfl⟩
              · rw [if_neg h5]
                exact ⟨mm.1, .inl (by omega)⟩
            generalize (if m0 = 5 then (10 : Int) ^ (40 : Int).toNat else m0) = m at hm
            obtain ⟨hm0, hm5⟩ := hm
            have e48 := (e46.trans e7).trans e8
            obtain ⟨dz, dz2⟩ := dueB_le (xs := e.xs) hm0 hm5 lo so
            have dok : LbOk (dueB m e.ls) := dueB_ok o.ok
            refine q_asgL (xs := (List.replicate (7 : Int).toNat [V.int 0]).flatten) (el_repN (el_lst (ea_cons ev_c ea_nil) (by show 1 ≤ 100000; decide)) (fun _ _ => ev_c) (by decide) (by show 1 ≤ 100; decide)) (fun d0 H9 hd9 e9 h9 => ?_)
            have e49 := e48.trans e9
            have tim : ∀ (dl : Addr) (H10 : Hp), Ex H9 H10 → H4 dl = none → H10 dl = some (.lst ((dueB m e.ls).map V.int)) → tAsg (tCallS (spTimes C N) (fun _ => E0) (tCons (tVar 11) (tCons (tOp (rIxT K) (tOp (rIxL K) (tVar 2) (tVar 6)) (tC (.int 0))) tNil))) (gTup K 2 (gCons (gName 8) (gCons (gName 9) gNil)))
                { nx := fun σ' H' => ∃ (r dl : Addr) (fl : Str) (due : List Int) (v5 v6 v7 v11 v12 : Option V), σ' = [some (.ref rl), some (.int (at_ : Int)), some (.ref nl), some (.ref ll), some (.int (k9 : Int)), v5, v6, v7, some (.ref r), some (.str fl), some (.ref dl), v11, v12] ∧ Got C N H4 H' r dl fl due, rt := Q }
                [some (.ref rl), some (.int (at_ : Int)), some (.ref nl), some (.ref ll), some (.int (k9 : Int)), some (.int way), some (.int (i : Int)), some (.int (j : Int)), none, none, some (.ref dl), some (.int m), none] H10 := fun dl H10 e10 hd10 h10 => by
              have x10 := e49.trans e10
              have st10 := st4.ex x10
              refine s_timesT (ev_var rfl) (ev_net st10 (ev_var rfl) (ev_var rfl) he) (st10.at_ e (List.mem_of_getElem? he)).mb (by omega) (fun hz r H11 hr11 e11 n11 => ?_) (fun hz r H11 e11 => ?_)
              · exact ⟨r, dl, "", dueB m e.ls, _, _, _, _, _, rfl, x10.trans e11, hd10, e11 _ _ h10, dok, dz2, .inl ⟨dz.mpr hz, rfl, fresh_back x10 hr11, _, n11, dueB_prs hm0 hm5 (o.ps.ex (x10.trans e11)) (dz.mpr hz)⟩⟩
              · exact ⟨r, dl, "machines", dueB m e.ls, _, _, _, _, _, rfl, x10.trans e11, hd10, e11 _ _ h10, dok, dz2, .inr ⟨by
                  by_cases h : (dueB m e.ls).length ≤ 6
                  · have := dz.mp h
                    omega
                  · omega, rfl⟩⟩
            refine q_when (b := decide (m < 5) || decide (e.ls = [])) (et_or (et_test (ev_op (ev_var rfl) ev_c rv_I0)) (fun _ => et_test (ev_opL (ev_lab (K := K) (e49 _ _ st4.hll) (ev_var rfl) (ev_var rfl) (StAt.lt he)) (el_lst ea_nil (by show 0 ≤ 100000; decide)) (fun p H10 hp10 e10 => rv_eqLs (ls := e.ls) (ms := []) (sq_of (e10 _ _ (e49 _ _ o.lb))) (sq_of hp10))))) (fun hc H10 e10 => ?_) (fun hc H10 e10 => ?_)
            · have hc' : m < 5 ∨ e.ls = [] := (Bool.or_eq_true_iff.mp hc).elim (fun z => .inl (of_decide_eq_true z)) (fun z => .inr (of_decide_eq_true z))
              have hdu : (dueB m e.ls).map V.int = (List.replicate (m % 5).toNat (e.ls.map V.int)).flatten := by
                unfold dueB
                rw [if_pos hc', map_rep]
              refine s_asgL (xs := (dueB m e.ls).map V.int) (by
                rw [hdu]
                exact el_rep2 (ev_lab (K := K) ((e49.trans e10) _ _ st4.hll) (ev_var rfl) (ev_var rfl) (StAt.lt he)) ((e49.trans e10) _ _ o.lb) (ev_cb (ea_cons (ev_op (x := .int m) (ev_cb (ea_cons (ev_var rfl) ea_nil) (rc_int (K := K))) ev_c (rv_I (by decide))) ea_nil) (rc_int (K := K))) (by omega) (by rw [List.length_map]; omega)) (fun dl H11 hd11 e11 h11 => ?_)
              exact tim dl H11 (e10.trans e11) (fresh_back (e49.trans e10) hd11) h11
            · have hc' : ¬ (m < 5 ∨ e.ls = []) := fun z => by
                have h2 := Bool.or_eq_false_iff.mp hc
                exact z.elim (of_decide_eq_false h2.1) (of_decide_eq_false h2.2)
              refine tim d0 H10 e10 (fresh_back e48 hd9) ?_
              have hdu : (dueB m e.ls).map V.int = (List.replicate (7 : Int).toNat [V.int 0]).flatten := by
                unfold dueB
                rw [if_neg hc']
                rfl
              rw [hdu]
              exact e10 _ _ h9
          · have e46 := e5.trans e6
            have cm : CMul 100 (k9 : Int) := .inl ⟨by decide, by decide⟩
            have hx : 0 ≤ x2 % 9 ∧ x2 % 9 ≤ 8 := by omega
            refine q_asgL (xs := ((List.range (x2 % 9).toNat).map fun j : Nat => (100 * (k9 : Int) + (j : Int))).map V.int) (by
              rw [List.map_map]
              exact el_lcRm (n := x2 % 9) (fun j : Nat => V.int (100 * (k9 : Int) + (j : Int))) (ea_cons (ev_op (x := .int x2) (ev_cb (ea_cons (ev_op (ev_var rfl) (ev_op (ev_var rfl) ev_c rv_I0) (rv_ixL (sq_of ((e14.trans e46) _ _ hrow)) g2)) ea_nil) (rc_int (K := K))) ev_c (rv_I (by decide))) ea_nil) (by omega) (fun x => rfl) (fun j H1 e hj => ev_op (ev_op ev_c (ev_var rfl) (rv_I cm)) (ev_var rfl) rv_I0)) (fun dl H7 hd e7 h7 => ?_)
            have e47 := e46.trans e7
            have dlen : ((List.range (x2 % 9).toNat).map fun j : Nat => (100 * (k9 : Int) + (j : Int))).length ≤ 8 := by rw [List.length_map, List.length_range]; omega
            have dok : LbOk ((List.range (x2 % 9).toNat).map fun j : Nat => (100 * (k9 : Int) + (j : Int))) := fun l hl => by
              obtain ⟨a, ha, rfl⟩ := List.mem_map.mp hl
              have := List.mem_range.mp ha
              omega
            refine s_listT (ev_var rfl) h7 dok (by omega) (fun hz r xs H8 hr8 e8 n8 p8 => ?_) (fun hz r H8 e8 => ?_)
            · exact ⟨r, dl, "", _, _, _, _, _, _, rfl, e47.trans e8, fresh_back e46 hd, e8 _ _ h7, dok, by omega, .inl ⟨hz, rfl, fresh_back e47 hr8, _, n8, p8⟩⟩
            · exact ⟨r, dl, "machines", _, _, _, _, _, _, rfl, e47.trans e8, fresh_back e46 hd, e8 _ _ h7, dok, by omega, .inr ⟨hz, rfl⟩⟩
      · subst hσ
        obtain ⟨x45, hd4, hd5, dok, dlen, hcase⟩ := hgot
        have dl1 : dl ≠ nl := fun z => by
          rw [z, st4.hnl] at hd4
          cases hd4
        have dl2 : dl ≠ ll := fun z => by
          rw [z, st4.hll] at hd4
          cases hd4
        have hlen5 : Ev (tCB (fun xs H Q => ∃ p ys, xs = [V.ref p] ∧ (SqL K H p ys ∨ SqT K H p ys) ∧ Q (.int ys.length) H) (tCons (tVar 10) tNil)) [some (.ref rl), some (.int (at_ : Int)), some (.ref nl), some (.ref ll), some (.int (k9 : Int)), v5, v6, v7, some (.ref r), some (.str fl), some (.ref dl), v11, v12] H5 (.int (due.length : Int)) := by
          have := ev_lenA (K := K) (σ := [some (.ref rl), some (.int (at_ : Int)), some (.ref nl), some (.ref ll), some (.int (k9 : Int)), v5, v6, v7, some (.ref r), some (.str fl), some (.ref dl), v11, v12]) (ta := tVar 10) (ev_var rfl) (.inl (sq_of hd5))
          rw [List.length_map] at this
          exact this
        refine q_when (b := decide ((6 : Int) < (due.length : Int))) (et_test (ev_op hlen5 ev_c rv_I0)) (fun hb6 H6 e6 => ?_) (fun hb6 H6 e6 => ?_)
        · have h6 := of_decide_eq_true hb6
          rcases hcase with ⟨h6', _⟩ | ⟨_, rfl⟩
          · omega
          refine s_ret (v := .bl true) (ev_is (ev_op (x := .str "machines") (y := .str "machines") (ev_var rfl) ev_c (rv_eq rfl)) (by rw [decide_eq_true rfl])) (fun H7 e7 => ?_)
          exact q es H7 (st4.ex ((x45.trans e6).trans e7)) ((((e14.trans x45).trans e6).trans e7) _ _ hrow) (by omega) (by omega)
        · have h6 := of_decide_eq_false hb6
          rcases hcase with ⟨hz, rfl, hr4, xs, n5, p5⟩ | ⟨h6', _⟩
          · have x46 := x45.trans e6
            refine q_appU (xs := es.map fun e => V.ref e.t) (ys := [.ref r, .bl true]) (x46 _ _ st4.hnl) (ev_var rfl) (eu_tup (ea_cons (ev_var rfl) (ea_cons ev_c ea_nil)) (by show 2 ≤ 100000; decide)) (by rw [List.length_map]; omega) (fun t9 H7 ht9 e7 h7 => ?_)
            have x47 := x46.trans e7
            have hll : (upd H7 nl (.lst ((es.map fun e => V.ref e.t) ++ [.ref t9]))) ll = some (.lst (es.map fun e => V.ref e.l)) := by
              rw [upd_ne st.ne.symm]
              exact x47 _ _ st4.hll
            refine q_app (xs := es.map fun e => V.ref e.l) (v := .ref dl) hll (ev_var rfl) (ev_var rfl) (by rw [List.length_map]; omega) (fun H9 e9 => ?_)
            have xl : ExL nl ll H7 (upd H9 ll (.lst ((es.map fun e => V.ref e.l) ++ [.ref dl]))) := ((ExL.updN (x47 _ _ st4.hnl)).trans (ExL.of e9)).trans (ExL.updL (e9 _ _ hll))
            have st7 := st4.ex x47
            have x57 := e6.trans e7
            have en : EnAt C N H7 ⟨t9, r, true, dl, xs, due⟩ := ⟨h7, fun _ => n5.ex x57, (fun z => nomatch z), p5.ex x57, x57 _ _ hd5, dok, hz⟩
            have fin := StAt.push (e := ⟨t9, r, true, dl, xs, due⟩) xl st7 en (fun f hf fb z => by
              obtain ⟨dx, t, z1, z2⟩ := (st4.at_ f hf).nt fb
              rw [z] at z1
              exact absurd (hr4.symm.trans z1) (fun z => nomatch z)) dl1 dl2 (by
                rw [upd_ne st.ne]
                exact e9 _ _ upd_same) upd_same
            have o' := fin.at_ ⟨t9, r, true, dl, xs, due⟩ (List.mem_append_right _ (List.mem_singleton.mpr rfl))
            have hrow9 : (upd H9 ll (.lst ((es.map fun e => V.ref e.l) ++ [.ref dl]))) rl = some (.lst (row.map V.int)) := by
              rw [upd_ne n2]
              refine e9 _ _ ?_
              rw [upd_ne n1]
              exact (e14.trans x47) _ _ hrow
            refine s_ret (v := .bl true) (ev_is (ev_andV (a := true) (b := true) (ev_is (ev_op (x := .str "") (y := .str "") (ev_var rfl) ev_c (rv_eq rfl)) (by rw [decide_eq_true rfl])) (fun _ => ev_cx (ea_cons (ev_var rfl) (ea_cons (ev_var rfl) ea_nil)) (sp_is (o'.nt rfl) o'.ps o'.lb o'.ok (by have : due.length ≤ 6 := hz; show due.length ≤ 100; omega)))) rfl) (fun H10 e10 => ?_)
            exact q _ H10 (fin.ex e10) (e10 _ _ hrow9) (by rw [List.length_append]; omega) (by rw [List.length_append]; exact Nat.le_refl _)
          · omega
end
end Fs

set_option Elab.async false
set_option linter.all false
set_option maxRecDepth 100000
set_option maxHeartbeats 2000000
/-! a == b of instances of one own class, both answers; a op i, i an int. -/
namespace FsR
open PySem PySem.Spec PyProof.Rows L2 Evl
structure EqM (K : PySem.W.Frag) (C : Addr) (g : Addr) : Prop where
  at_ : PySem.W.findIn K (.ref C) "__eq__" = some (some (.ref g))
  fn : PySem.W.isFn K (.ref g) = true
/-- a == b -/
def rOwnEq (C : Addr) (sp : Sp) (E : XK) : R2 := fun x y H Q => ∃ (a b dx dy : Addr) (fs gs : List (Str × V)), x = .ref a ∧ y = .ref b ∧ H a = some (.ins C dx fs) ∧ H b = some (.ins C dy gs) ∧ sp [.ref a, .ref b] H Q E
theorem op_ownEq {X : Cx} {CX : CXT} {k : Nat} {C g : Addr} {fd : FuncData} {ps : List Str} {sp : Sp} {E : XK} (M : EqM X.K C g) (F : FnOk X.prog X.w X.K X.mg X.base CX k g fd ps sp) (hr : Room k X.A) (hd : Binds X.K fd ps []) (hx : ∀ σ, PassesAt CX X σ E) : OpR X (compareOp .Eq) (rOwnEq C sp E) := by
  intro pins s σ H x y v u Q I rx ry h
  obtain ⟨a, b, dx, dy, fs, gs, rfl, rfl, h1, h2, q⟩ := h
  obtain rfl : v = Value.ref a := rx
  obtain rfl : u = Value.ref b := ry
  obtain ⟨_, O1, _, _, _, _⟩ := ins_get I.hok h1
  obtain ⟨_, O2, _, _, _, _⟩ := ins_get I.hok h2
  obtain ⟨_, i1, _⟩ := O1.look
  obtain ⟨_, i2, _⟩ := O2.look
  obtain ⟨m, fr⟩ := I.fr
  show wpAny _ _ (richCompare .Eq _ _) _ _ _
  refine PySem.W.cmp_K (op := .Eq) (tb := .ref C) hr.units0 fr I.ok.mod.kin i1 i2.type (by unfold PySem.W.notFirst; rw [beq_self_eq_true, Bool.true_or]) M.at_ M.fn ?_
  refine wpAny_mono (run_fnS (E := fun _ => E) (us := [.ref a, .ref b]) (vs := [.ref a, .ref b]) F hr hd (hx σ) I (.cons rfl (.cons rfl .nil)) q) (fun w s' hw => ?_) fun _ _ z => z
  obtain ⟨y, H', J, r, q'⟩ := hw
  have fin : EP X pins σ Q w s' := ⟨y, H', J, r, q'⟩
  cases w with
  | notImplemented => exact no_notimpl r
  | _ => exact fin
structure OpI (K : PySem.W.Frag) (C : Addr) (op : Operator) (g : Addr) : Prop where
  fst : PySem.W.selfFirst K C = true
  at_ : PySem.W.findIn K (.ref C) (PySem.dunder op.info.2) = some (some (.ref g))
  fn : PySem.W.isFn K (.ref g) = true
  rv : PySem.W.findIn K (.ref C) (dunderR op.info.2) = some none
  h1 : ∃ fo, PySem.W.findIn K (.type "int") (PySem.dunder op.info.2) = some fo
  h2 : ∃ ro, PySem.W.findIn K (.type "int") (dunderR op.info.2) = some ro
  sub : PySem.W.subIn K (.type "int") (.ref C) = some false
/-- a op i -/
def tOwnI (C : Addr) (sp : Sp) (E : L2.St → XK) (ta tb : TE) : TE := fun σ H Q => ta σ H fun x H1 => tb σ H1 fun y H2 => ∃ (a dx : Addr) (fs : List (Str × V)) (i : Int), x = .ref a ∧ y = .int i ∧ H2 a = some (.ins C dx fs) ∧ sp [.ref a, .int i] H2 Q (E σ)
theorem pe_ownI {X : Cx} {CX : CXT} {k : Nat} {C g : Addr} {fd : FuncData} {ps : List Str} {sp : Sp} {E : L2.St → XK} {ea eb : Expr} {op : Operator} {pos : Pos} {ta tb : TE} (ha : PE X ea ta) (hb : PE X eb tb) (M : OpI X.K C op g) (F : FnOk X.prog X.w X.K X.mg X.base CX k g fd ps sp) (hr : Room k X.A) (hd : Binds X.K fd ps [])
    (hx : ∀ σ, PassesAt CX X σ (E σ)) : PE X (.BinOp ea op eb pos) (tOwnI C sp E ta tb) := by
  refine ⟨fun pins s σ H Q I h => wpAny_BinOp (binT ha hb I h fun v u s2 x y H2 I2 rx ry q => ?_)⟩
  obtain ⟨a, dx, fs, i, rfl, rfl, h1, q⟩ := q
  obtain rfl : v = Value.ref a := rx
  obtain ⟨t, rfl⟩ := ry
  obtain ⟨_, O1, _, _, _, _⟩ := ins_get I2.hok h1
  obtain ⟨_, i1, _⟩ := O1.look
  obtain ⟨m, fr⟩ := I2.fr
  obtain ⟨fo, hfo⟩ := M.h1
  obtain ⟨ro, hro⟩ := M.h2
  refine PySem.W.ksp_binT fr I2.ok.mod.kin i1 (T := "int") rfl M.fst M.at_ M.fn M.rv (.inl rfl) hfo hro M.sub (wpAny_mono (run_fnS (us := [.ref a, .int i t]) (vs := [.ref a, .int i]) F hr hd (hx σ) I2 (.cons rfl (.cons ⟨t, rfl⟩ .nil)) q) (fun w s' hw => ?_) fun _ _ z => z)
  obtain ⟨y, H', J, r, q'⟩ := hw
  have fin : EP X pins σ Q w s' := ⟨y, H', J, r, q'⟩
  cases w with
  | notImplemented => exact no_notimpl r
  | _ => exact fin
end FsR

set_option Elab.async false
set_option linter.all false
set_option maxRecDepth 100000
set_option maxHeartbeats 16000000
/-! the law's beginning -/
namespace Fs
open PySem L2 Evl FsE FsC FsR FsA FsQ FsK FsW FsS
theorem passN {X : Cx} : Passes (L2N.CX X.prog X.w) X E0 := fun _ _ _ _ _ _ _ c => by
  obtain ⟨_, _, _, _, _, _, _, _, _, _, _, _, hE⟩ := c
  exact hE.elim
section
variable {σ : L2.St} {H H2 : Hp} {t1 t2 t3 te tf : TE} {tz : TS} {D : Ends} {K : PySem.W.Frag} {C N CB : Addr} {E : XK} {Q : VK}
theorem s_lst3 {i : Nat} (h : t1 σ H fun x H1 => t2 σ H1 fun y H2 => t3 σ H2 fun z H3 => 3 ≤ sizeLine ∧ ∀ p, H3 p = none → tz D (σ.set i (some (.ref p))) (upd H3 p (.lst [x, y, z]))) : tSeq (tAsg (tLst (tCons t1 (tCons t2 (tCons t3 tNil)))) (gName i)) tz D σ H := h
theorem s_tup2 (h : te σ H fun x H1 => tf σ H1 fun y H2 => 2 ≤ sizeLine ∧ ∀ t, H2 t = none → Q (.ref t) (upd H2 t (.tup [x, y]))) : tTup (tCons te (tCons tf tNil)) σ H Q := h
theorem s_mk (h : te σ H fun v H2 => ∀ x dx, H2 x = none → H2 dx = none → dx ≠ x → spNtInit K N CB [.ref x, v] (upd (upd H2 dx (.own x)) x (.ins N dx [])) (fun v H2 => v = .non ∧ Q (.ref x) H2) E) : tMake N (spNtInit K N CB) [] E (tCons te tNil) σ H Q := h
theorem s_lst2 (h : te σ H fun x H1 => tf σ H1 fun y H2 => 2 ≤ sizeLine ∧ ∀ p, H2 p = none → Q (.ref p) (upd H2 p (.lst [x, y]))) : tLst (tCons te (tCons tf tNil)) σ H Q := h
theorem init_net {Qr : Hp → Prop} {p x dx : Addr} {xs : List V} (hp : SqA K H2 p xs) (hz : xs.length ≤ 6) (hx : H2 x = none) (hdx : H2 dx = none) (k : ∀ H', Ex H2 H' → NtAt N H' x xs → Qr H') : spNtInit K N CB [.ref x, .ref p] (upd (upd H2 dx (.own x)) x (.ins N dx [])) (fun v H2 => v = .non ∧ Qr H2) E := by
  have x0 : Ex H2 (upd (upd H2 dx (.own x)) x (.ins N dx [])) := by
    intro b o hb
    rw [upd_ne (ne_of_none hb hx), upd_ne (ne_of_none hb hdx)]
    exact hb
  exact ⟨x, dx, p, xs, H2, rfl, upd_same, hx, x0, hp, fun z H' e' hr => ⟨rfl, k H' e' hr⟩, fun z => by omega⟩
/-- _law_process(l) -/
theorem s_proc {F : L2.St → XK} {l : Int} (h0 : 0 ≤ l) (h1 : l ≤ 4000) (k : ∀ a H', H a = none → Ex H H' → PrAt C H' a (pL l) → Q (.ref a) H') : tCallS (spLp C) F (tCons (tC (.int l)) tNil) σ H Q := ⟨l, rfl, h0, h1, k⟩
theorem es_pp {F : L2.St → XK} {l : Int} {b : Bool} (h0 : 0 ≤ l) (h1 : l ≤ 4000) : EvS (tTup (tCons (tCallS (spLp C) F (tCons (tC (.int l)) tNil)) (tCons (tC (.bl b)) tNil))) σ H (fun v H' => ∃ a t, v = .ref t ∧ H' t = some (.tup [.ref a, .bl b]) ∧ PrAt C H' a (pL l)) := fun H1 e Q q =>
  s_tup2 (s_proc h0 h1 fun a H2 ha e2 h2 => ⟨by show 2 ≤ sizeLine; decide, fun t ht => q (.ref t) _ (e2.trans (Ex.new ht)) ⟨a, t, rfl, upd_same, h2.ex (Ex.new ht)⟩⟩)
theorem q_labs {i : Nat} (k : ∀ p l0 l1 l2 l3 H', Ex H H' → H l0 = none → H l1 = none → H l2 = none → H l3 = none → H p = none → l0 ≠ p → l1 ≠ p → l2 ≠ p → l3 ≠ p → H' p = some (.lst [.ref l0, .ref l1, .ref l2, .ref l3]) → H' l0 = some (.lst []) → H' l1 = some (.lst [.int 1, .int 2]) → H' l2 = some (.lst [.int 3]) → H' l3 = some (.lst [.int 4]) → tz D (σ.set i (some (.ref p))) H') :
    tSeq (tAsg (tLst (tCons (tLst tNil) (tCons (tLst (tCons (tC (.int 1)) (tCons (tC (.int 2)) tNil))) (tCons (tLst (tCons (tC (.int 3)) tNil)) (tCons (tLst (tCons (tC (.int 4)) tNil)) tNil))))) (gName i)) tz D σ H := by
  refine ⟨by show 0 ≤ sizeLine; decide, fun l0 h0 => ⟨by show 2 ≤ sizeLine; decide, fun l1 h1 => ⟨by show 1 ≤ sizeLine; decide, fun l2 h2 => ⟨by show 1 ≤ sizeLine; decide, fun l3 h3 => ⟨by show 4 ≤ sizeLine; decide, fun p hp => ?_⟩⟩⟩⟩⟩
  have e0 := Ex.new (o := .lst []) h0
  have e1 := Ex.new (o := .lst [.int 1, .int 2]) h1
  have e2 := Ex.new (o := .lst [.int 3]) h2
  have e3 := Ex.new (o := .lst [.int 4]) h3
  have ep := Ex.new (o := .lst [.ref l0, .ref l1, .ref l2, .ref l3]) hp
  have k0 := e3 _ _ (e2 _ _ (e1 _ _ (upd_same (H := H) (a := l0) (o := .lst []))))
  have k1 := e3 _ _ (e2 _ _ (upd_same (H := upd H l0 (.lst [])) (a := l1) (o := .lst [.int 1, .int 2])))
  have k2 := e3 _ _ (upd_same (H := upd (upd H l0 (.lst [])) l1 (.lst [.int 1, .int 2])) (a := l2) (o := .lst [.int 3]))
  have k3 := upd_same (H := upd (upd (upd H l0 (.lst [])) l1 (.lst [.int 1, .int 2])) l2 (.lst [.int 3])) (a := l3) (o := .lst [.int 4])
  exact k p l0 l1 l2 l3 _ ((((e0.trans e1).trans e2).trans e3).trans ep) h0 (fresh_back e0 h1) (fresh_back (e0.trans e1) h2) (fresh_back ((e0.trans e1).trans e2) h3) (fresh_back (((e0.trans e1).trans e2).trans e3) hp) (ne_of_none k0 hp) (ne_of_none k1 hp) (ne_of_none k2 hp) (ne_of_none k3 hp) upd_same (ep _ _ k0) (ep _ _ k1) (ep _ _ k2) (ep _ _ k3)
theorem rv_ntEq {a c : Addr} {xs ys : List V} {ls ms : List Int} (h1 : NtAt N H a xs) (h2 : NtAt N H c ys) (p1 : PrsAt C H xs (ls.map pL)) (p2 : PrsAt C H ys (ms.map pL)) : RV (rOwnEq N (spEqB (RNtB C N 1)) E) (.ref a) (.ref c) H (.bl (decide (ls = ms))) := fun H1 e Q q => by
  have g1 := h1.ex e
  have g2 := h2.ex e
  obtain ⟨dx, t, i1, _⟩ := id g1
  obtain ⟨dy, u, i2, _⟩ := id g2
  refine ⟨a, c, dx, dy, _, _, rfl, rfl, i1, i2, a, c, decide (ls = ms), rfl, ⟨xs, ys, ls.map pL, ms.map pL, g1, g2, p1.ex e, p2.ex e, fun p hp => ?_, same_is ?_⟩, fun H2 e2 => q H2 e2⟩
  · obtain ⟨l, _, rfl⟩ := List.mem_map.mp hp
    show (pL l).depth ≤ 1
    unfold pL Pr.depth
    decide
  · rw [decide_eq_true_eq]
    exact ⟨fun z => by rw [z], fun z => map_inj (fun _ _ => pL_inj) z⟩
end
end Fs

set_option Elab.async false
set_option linter.all false
set_option maxRecDepth 100000
set_option maxHeartbeats 16000000
/-! the law -/
namespace Fs
open PySem L2 Evl FsE FsC FsR FsA FsQ FsK FsW FsS
def spLaw (K : PySem.W.Frag) : Sp := fun vs H Q _ => ∃ (a : Addr) (ns : List Int), vs = [.ref a] ∧ SqL K H a (ns.map V.int) ∧ ∀ H', Q (.bl true) H'
abbrev nsLaw : List Str := ["_law_script", "_law_nets", "_law_labels", "_law_row_here", "_law_k", "_law_held", "_law_j"]
theorem scLawT : FnScope nsLaw ["_law_script"] (defScope (topS 43)) := ⟨rfl, rfl, rfl, by decide +kernel, rfl, by decide +kernel, by decide +kernel⟩
section
variable {P : Program} {w : World} {K : PySem.W.Frag} {mg : Str → Option Value} {base : Heap} {C N CB : Addr}
theorem ok_law {f gq : Addr} {fd gd : FuncData} {k : Nat} (hk : 8 ≤ k) (F : Fun K "law" "law" (topS 43) f fd) (L : LawT K mg) (GC : CalX P w K mg base CX0 1 "_law_cell_at" (spCellAt K)) (GR : CalX P w K mg base CX0 2 "_law_row" spRow) (GL : CalX P w K mg base CX0 k "_law_process" (spLp C)) (MN : MakX P w K mg base (L2N.CX P w) k "Net" N (spNtInit K N CB))
    (GS : CalX P w K mg base CX0 k "_law_step" (spStep K C N)) (GI : CalX P w K mg base CX0 4 "_law_is" (spIs K C N)) (MQ : EqM K N gq) (FQ : FnOk P w K mg base CX0 8 gq gd ["self", "other"] (spEqB (RNtB C N 1))) (BQ : Binds K gd ["self", "other"] []) : FnOk P w K mg base CX0 (k + 2) f fd ["_law_script"] (spLaw K) := by
  refine F.ok scLawT (fun vs H Q E h => ?_) (fun cdv A outer s H vs Q E hr h => ?_)
  · obtain ⟨a, ns, rfl, _⟩ := h
    rfl
  · obtain ⟨a, ns, rfl, hS, q⟩ := h
    refine ⟨_, pss_cons (ps_set (i := 1) scLawT.nd rfl (Or.inr rfl) (pe_lst (pa_cons (pe_tup (pa_cons (pe_mx (E := E0) MN hr (by omega) (by rfl) passN (pa_cons (pe_lst pa_nil) pa_nil)) (pa_cons pe_bl pa_nil)))
          (pa_cons (pe_tup (pa_cons (pe_mx (E := E0) MN hr (by omega) (by rfl) passN (pa_cons (pe_lst (pa_cons (pe_cx (E := fun _ => E0) GL hr (by omega) (by rfl) at0 (pa_cons pe_int pa_nil)) (pa_cons (pe_cx (E := fun _ => E0) GL hr (by omega) (by rfl) at0 (pa_cons pe_int pa_nil)) pa_nil))) pa_nil)) (pa_cons pe_bl pa_nil)))
          (pa_cons (pe_tup (pa_cons (pe_cx (E := fun _ => E0) GL hr (by omega) (by rfl) at0 (pa_cons pe_int pa_nil)) (pa_cons pe_bl pa_nil))) pa_nil)))))
      (pss_cons (ps_expr (pe_bm PySem.F.plainAttrs_list PySem.F.slot_list_append PySem.F.type_list_append mt_append (pv 1) (pa_cons (pe_tup (pa_cons (pe_cx (E := fun _ => E0) GL hr (by omega) (by rfl) at0 (pa_cons pe_int pa_nil)) (pa_cons pe_bl pa_nil))) pa_nil)))
      (pss_cons (ps_set (i := 2) scLawT.nd rfl (Or.inl rfl) (pe_lst (pa_cons (pe_lst pa_nil) (pa_cons (pe_lst (pa_cons pe_int (pa_cons pe_int pa_nil))) (pa_cons (pe_lst (pa_cons pe_int pa_nil)) (pa_cons (pe_lst (pa_cons pe_int pa_nil)) pa_nil))))))
      (pss_cons (ps_set (i := 3) scLawT.nd rfl (Or.inl rfl) (pe_cx (E := fun _ => E0) GR hr (by omega) (by rfl) at0 (pa_cons (pe_cx (E := fun _ => E0) GC hr (by omega) (by rfl) at0 (pa_cons (pv 0) (pa_cons pe_int pa_nil))) (pa_cons pe_int pa_nil))))
      (pss_cons (ps_for PassesOwn.never rfl (pi_range1 rfl L.range (pa_cons pe_int pa_nil)) (pg_name (i := 4) scLawT.nd rfl (Or.inl rfl))
        (pss_one (ps_if (pt_not (pt_val (pe_cx (E := fun _ => E0) GS hr (by omega) (by rfl) at0 (pa_cons (pv 3) (pa_cons (pe_op op_mul pe_int (pv 4)) (pa_cons (pv 1) (pa_cons (pv 2) (pa_cons (pv 4) pa_nil)))))))) (pss_one (ps_ret pe_bl)) pss_nil)))
      (pss_cons (ps_setLc (i := 5) (own := [("_law_k", 4)]) (g := gName 4) (tt := tB (tOp (rIxT K) (tOp (rIxL K) (tVar 1) (tVar 4)) (tC (.int 1)))) (te := tVar 4) rfl scLawT.nd rfl rfl (sw_true rfl rfl rfl (by decide +kernel)) (pi_range1 rfl L.range (pa_cons (pe_callB call_len_seq (by rfl) L.len PySem.boot_len (pa_cons (pv 1) pa_nil)) pa_nil)) (blkOk_by (own := [("_law_k", 4)]) (N := nsLaw) (sc := defScope (topS 43)) (by decide +kernel))
          (fun _ _ _ _ _ => pg_name (i := 4) scLawT.nd rfl (.inl rfl)) (fun _ _ _ _ _ => pts_one (pt_val (pe_ix ix_tup (pe_ix ix_list (pv 1) (pv 4) (fun _ _ => rfl)) pe_int (fun _ _ => rfl)))) (fun _ _ _ _ _ => pv 4))
      (pss_cons (ps_for PassesOwn.never rfl (pi_list (pv 5)) (pg_name (i := 4) scLawT.nd rfl (Or.inl rfl))
        (pss_cons (ps_if (pt_not (pt_val (pe_cx (E := fun _ => E0) GI hr (by omega) (by rfl) at0 (pa_cons (pe_ix ix_tup (pe_ix ix_list (pv 1) (pv 4) (fun _ _ => rfl)) pe_int (fun _ _ => rfl)) (pa_cons (pe_ix ix_list (pv 2) (pv 4) (fun _ _ => rfl)) pa_nil))))) (pss_one (ps_ret pe_bl)) pss_nil)
        (pss_one (ps_for PassesOwn.never rfl (pi_list (pv 5)) (pg_name (i := 6) scLawT.nd rfl (Or.inl rfl))
          (pss_one (ps_if (pt_cmpR op_ne (pe_cmpR (op_ownEq (E := E0) MQ FQ (hr.mono (by omega)) BQ (fun σ => at0 (E := fun _ => E0) σ)) (pe_ix ix_tup (pe_ix ix_list (pv 1) (pv 4) (fun _ _ => rfl)) pe_int (fun _ _ => rfl)) (pe_ix ix_tup (pe_ix ix_list (pv 1) (pv 6) (fun _ _ => rfl)) pe_int (fun _ _ => rfl)) (nomark _))
            (pe_cmpR (op_eqD hr.units) (pe_ix ix_list (pv 2) (pv 4) (fun _ _ => rfl)) (pe_ix ix_list (pv 2) (pv 6) (fun _ _ => rfl)) (nomark _)) (nomark _)) (pss_one (ps_ret pe_bl)) pss_nil))))))
      (pss_one (ps_ret pe_bl)))))))), ?_⟩
    refine s_lst3 (s_tup2 (mk_net (K := K) (xs := []) (eq_l (el_lst ea_nil (by show 0 ≤ 100000; decide))) (by show 0 ≤ 6; decide) (fun r0 H1 hr0 e1 nr0 => ⟨by show 2 ≤ sizeLine; decide, fun t0 ht0 => ?_⟩)))
    have f1 := Ex.new (o := .tup [.ref r0, .bl true]) ht0
    refine s_tup2 (s_mk (s_lst2 (s_proc (by decide) (by decide) (fun a1 H2 ha1 e2 p1 => s_proc (by decide) (by decide) (fun a2 H3 ha2 e3 p2 => ⟨by show 2 ≤ sizeLine; decide, fun pl hpl => fun r1 dx1 hr1 hdx1 _ => ?_⟩)))))
    refine init_net (K := K) (xs := [.ref a1, .ref a2]) (.inl (sq_of upd_same)) (by show 2 ≤ 6; decide) hr1 hdx1 (fun H4 e4 nr1 => ?_)
    refine ⟨by show 2 ≤ sizeLine; decide, fun t1 ht1 => ?_⟩
    have f2 := Ex.new (o := .lst [.ref a1, .ref a2]) hpl
    have f3 := Ex.new (o := .tup [.ref r1, .bl true]) ht1
    refine s_tup2 (s_proc (by decide) (by decide) (fun a3 H5 ha3 e5 p3 => ⟨by show 2 ≤ sizeLine; decide, fun t2 ht2 => ⟨by show 3 ≤ sizeLine; decide, fun nl hnl => ?_⟩⟩))
    have f4 := Ex.new (o := .tup [.ref a3, .bl false]) ht2
    have f5 := Ex.new (o := .lst [.ref t0, .ref t1, .ref t2]) hnl
    generalize hH6 : upd (upd H5 t2 (.tup [.ref a3, .bl false])) nl (.lst [.ref t0, .ref t1, .ref t2]) = H6 at f5
    have n6 : H6 nl = some (.lst [.ref t0, .ref t1, .ref t2]) := by rw [← hH6]; exact upd_same
    have x5 := f4.trans f5
    have x4 := (f3.trans e5).trans x5
    have x1 := (((f1.trans e2).trans e3).trans (f2.trans e4)).trans x4
    have k0 : H6 t0 = some (.tup [.ref r0, .bl true]) := ((((e2.trans e3).trans (f2.trans e4)).trans x4)) _ _ upd_same
    have k1 : H6 t1 = some (.tup [.ref r1, .bl true]) := (e5.trans x5) _ _ upd_same
    have k2 : H6 t2 = some (.tup [.ref a3, .bl false]) := f5 _ _ upd_same
    have g0 := nr0.ex x1
    have g1 := nr1.ex x4
    have gp1 := p1.ex ((e3.trans (f2.trans e4)).trans x4)
    have gp2 := p2.ex ((f2.trans e4).trans x4)
    have gp3 := p3.ex x5
    have hne : r0 ≠ r1 := fun z => by
      obtain ⟨dx, t, y1, _⟩ := nr0
      have := f2 _ _ ((((f1.trans e2).trans e3)) _ _ y1)
      rw [z, hr1] at this
      cases this
    have hx6 : Ex H H6 := e1.trans x1
    clear hH6
    refine q_appS n6 (ev_var rfl) (es_pp (by decide) (by decide)) (by show 3 < 100000; decide) (fun v H7 e7 ⟨a4, t3, hv, k3, p4⟩ => ?_)
    subst hv
    have n7 := e7 _ _ n6
    have u7 : ExN H7 (upd H7 nl (.lst ([V.ref t0, .ref t1, .ref t2] ++ [.ref t3]))) := ExN.upd n7
    generalize hH8 : upd H7 nl (.lst ([V.ref t0, .ref t1, .ref t2] ++ [.ref t3])) = H8 at u7
    have n8 : H8 nl = some (.lst [.ref t0, .ref t1, .ref t2, .ref t3]) := by rw [← hH8]; exact upd_same
    have nln : H nl = none := by
      cases e : H nl with
      | none => rfl
      | some o =>
        have z := ((e1.trans (((f1.trans e2).trans e3).trans (f2.trans e4))).trans ((f3.trans e5).trans f4)) _ _ e
        rw [hnl] at z
        cases z
    have hx8 : Ex H H8 := by
      rw [← hH8]
      exact Ex.mut (hx6.trans e7) nln
    refine q_labs (fun ll l0 l1 l2 l3 H9 e9 hl0 hl1 hl2 hl3 hll q0 q1 q2 q3 m9 m0 m1 m2 m3 => ?_)
    have w0 := (g0.ex e7).keepN u7 |>.ex e9
    have w1 := (g1.ex e7).keepN u7 |>.ex e9
    have wp1 := (PrAt.keep u7 (gp1.ex e7)).ex e9
    have wp2 := (PrAt.keep u7 (gp2.ex e7)).ex e9
    have wp3 := (PrAt.keep u7 (gp3.ex e7)).ex e9
    have wp4 := (PrAt.keep u7 p4).ex e9
    have y0 := e9 _ _ (u7.tup _ _ (e7 _ _ k0))
    have y1 := e9 _ _ (u7.tup _ _ (e7 _ _ k1))
    have y2 := e9 _ _ (u7.tup _ _ (e7 _ _ k2))
    have y3 := e9 _ _ (u7.tup _ _ k3)
    have ok1 : ∀ ls : List Int, ls = [] ∨ ls = [1, 2] ∨ ls = [3] ∨ ls = [4] → LbOk ls := fun ls h => by
      rcases h with rfl | rfl | rfl | rfl <;> intro l hl <;> simp at hl <;> omega
    have st9 : StAt C N H9 nl ll [⟨t0, r0, true, l0, [], []⟩, ⟨t1, r1, true, l1, [.ref a1, .ref a2], [1, 2]⟩, ⟨t2, a3, false, l2, [.ref a3], [3]⟩, ⟨t3, a4, false, l3, [.ref a4], [4]⟩] := by
      have nlx : ∀ l, H8 l = none → l ≠ nl := fun l hl z => by
        rw [z, n8] at hl
        cases hl
      refine ⟨e9 _ _ n8, m9, fun e he => ?_, (nlx ll hll).symm, fun e he => ?_, fun i j e f hi hj eb fb h => ?_⟩
      · simp only [List.mem_cons, List.not_mem_nil, or_false] at he
        rcases he with rfl | rfl | rfl | rfl
        · exact ⟨y0, fun _ => w0, (fun z => nomatch z), True.intro, m0, ok1 _ (.inl rfl), by show 0 ≤ 6; decide⟩
        · exact ⟨y1, fun _ => w1, (fun z => nomatch z), ⟨⟨a1, rfl, wp1⟩, ⟨a2, rfl, wp2⟩, True.intro⟩, m1, ok1 _ (.inr (.inl rfl)), by show 2 ≤ 6; decide⟩
        · exact ⟨y2, (fun z => nomatch z), fun _ => ⟨⟨_, wp3⟩, rfl⟩, ⟨⟨a3, rfl, wp3⟩, True.intro⟩, m2, ok1 _ (.inr (.inr (.inl rfl))), by show 1 ≤ 6; decide⟩
        · exact ⟨y3, (fun z => nomatch z), fun _ => ⟨⟨_, wp4⟩, rfl⟩, ⟨⟨a4, rfl, wp4⟩, True.intro⟩, m3, ok1 _ (.inr (.inr (.inr rfl))), by show 1 ≤ 6; decide⟩
      · simp only [List.mem_cons, List.not_mem_nil, or_false] at he
        rcases he with rfl | rfl | rfl | rfl
        · exact ⟨nlx _ hl0, q0⟩
        · exact ⟨nlx _ hl1, q1⟩
        · exact ⟨nlx _ hl2, q2⟩
        · exact ⟨nlx _ hl3, q3⟩
      · match i, j, hi, hj with
        | 0, 0, _, _ => rfl
        | 1, 1, _, _ => rfl
        | 0, 1, hi, hj =>
          cases hi
          cases hj
          exact (hne h).elim
        | 1, 0, hi, hj =>
          cases hi
          cases hj
          exact (hne h.symm).elim
        | 2, _, hi, _ =>
          cases hi
          cases eb
        | 3, _, hi, _ =>
          cases hi
          cases eb
        | _, 2, _, hj =>
          cases hj
          cases fb
        | _, 3, _, hj =>
          cases hj
          cases fb
        | i + 4, _, hi, _ => simp at hi
        | _, j + 4, _, hj => simp at hj
    refine ⟨_, rfl, a, ns, 0, rfl, ex_l (hx8.trans e9) hS, fun c H10 e10 => ⟨c, 60, rfl, by decide, fun row hrl hrok rl H11 hrl11 e11 h11 => ?_⟩⟩
    have st11 := st9.ex (e10.trans e11)
    have fre : ∀ {b : Addr} {o : HO}, H9 b = some o → rl ≠ b := fun hb z => by
      have := e10 _ _ hb
      rw [← z, hrl11] at this
      cases this
    have rn1 := fre st9.hnl
    have rn2 := fre st9.hll
    refine q_forR1 (n := 20) (ea_cons ev_c ea_nil) (by decide) (fun i σ' H' => ∃ (es : List En) (v4 v5 v6 : Option V), σ' = [some (.ref a), some (.ref nl), some (.ref ll), some (.ref rl), v4, v5, v6] ∧ StAt C N H' nl ll es ∧ H' rl = some (.lst (row.map V.int)) ∧ 4 ≤ es.length ∧ es.length ≤ 4 + i)
      (fun H12 e12 => ⟨_, _, _, _, rfl, st11.ex e12, e12 _ _ h11, by show 4 ≤ 4; decide, by show 4 ≤ 4 + 0; decide⟩) (fun i σ' H' hi ⟨es, v4, v5, v6, hσ, hst, hrow, h4, h24⟩ => ?_) (fun σ' H' ⟨es, v4, v5, v6, hσ, hst, hrow, h4, h24⟩ => ?_)
    · subst hσ
      have m3 : ((3 * i : Nat) : Int) = 3 * (i : Int) := by omega
      refine ⟨_, rfl, _, rfl, 3, (i : Int), rfl, rfl, .inl ⟨by decide, by decide⟩, _, rfl, _, rfl, _, rfl, rl, nl, ll, 3 * i, i, row, es, by rw [m3], hrow, hrok, by omega, by omega, hst, by omega, by omega, rn1, rn2, fun es' H12 st' hrow' l1 l2 => ⟨true, rfl, ?_⟩⟩
      exact ⟨es', _, _, _, rfl, st', hrow', by omega, by omega⟩
    · subst hσ
      have hlen : Ev (tCB (fun xs H Q => ∃ p ys, xs = [V.ref p] ∧ (SqL K H p ys ∨ SqT K H p ys) ∧ Q (.int ys.length) H) (tCons (tVar 1) tNil)) [some (.ref a), some (.ref nl), some (.ref ll), some (.ref rl), v4, v5, v6] H' (.int (es.length : Int)) := by
        have := ev_lenA (K := K) (σ := [some (.ref a), some (.ref nl), some (.ref ll), some (.ref rl), v4, v5, v6]) (ta := tVar 1) (ev_var rfl) (.inl (sq_of hst.hnl))
        rw [List.length_map] at this
        exact this
      refine q_asgL (xs := given (es.length : Int).toNat (fun i => ((es[i]?).map En.b).getD false) (fun i => .int (i : Int))) (el_lcR1 (n := (es.length : Int)) (fun i => ((es[i]?).map En.b).getD false) (fun i => .int (i : Int)) (ea_cons hlen ea_nil) (by omega) (fun x => rfl) (fun i H1 e hi => ?_) (fun i H1 e hi hf => ev_var rfl)) (fun hl H12 hhl e12 h12 => ?_)
      · have hi' : i < es.length := by omega
        have hg : es[i]? = some es[i] := List.getElem?_eq_getElem hi'
        rw [hg]
        exact et_B (ev_flag (hst.ex e) (ev_var rfl) (ev_var rfl) hg)
      have st12 := hst.ex e12
      have item : ∀ {i : Nat} {x : V}, (given (es.length : Int).toNat (fun i => ((es[i]?).map En.b).getD false) (fun i => .int (i : Int)))[i]? = some x → ∃ (j : Nat) (e : En), x = .int (j : Int) ∧ es[j]? = some e ∧ e.b = true := fun {i x} h => by
        obtain ⟨j, hj, rfl⟩ := List.mem_map.mp (List.mem_of_getElem? h)
        obtain ⟨hj1, hj2⟩ := List.mem_filter.mp hj
        cases hg : es[j]? with
        | none =>
          rw [hg] at hj2
          cases hj2
        | some e =>
          rw [hg] at hj2
          exact ⟨j, e, rfl, hg, hj2⟩
      have lenl : (given (es.length : Int).toNat (fun i => ((es[i]?).map En.b).getD false) (fun i => .int (i : Int))).length ≤ 1000 := by
        have := given_len (es.length : Int).toNat (fun i => ((es[i]?).map En.b).getD false) (fun i => .int (i : Int))
        omega
      generalize given (es.length : Int).toNat (fun i => ((es[i]?).map En.b).getD false) (fun i => .int (i : Int)) = held at h12 item lenl
      refine q_forLn (ev_var rfl) (sq_of h12) (fun i σ' H' => ∃ (v4 v6 : Option V), σ' = [some (.ref a), some (.ref nl), some (.ref ll), some (.ref rl), v4, some (.ref hl), v6] ∧ Ex H12 H') (fun H13 e13 => ⟨_, _, rfl, e13⟩) (fun i σ' H' _ ⟨_, _, _, e⟩ => sq_of (e _ _ h12)) (fun i x σ' H' hx ⟨v4, v6, hσ, he⟩ => ?_) (fun σ' H' ⟨v4, v6, hσ, he⟩ => ?_)
      · subst hσ
        obtain ⟨j, e, rfl, hj, hb⟩ := item hx
        have stx := st12.ex he
        have o := stx.at_ e (List.mem_of_getElem? hj)
        have so := o.sz
        refine q_when (b := false) (et_is (et_not (et_B (ev_cx (ea_cons (ev_net stx (ev_var rfl) (ev_var rfl) hj) (ea_cons (ev_lab (K := K) stx.hll (ev_var rfl) (ev_var rfl) (StAt.lt hj)) ea_nil)) (sp_is (o.nt hb) o.ps o.lb o.ok (by omega))))) rfl) (fun z => nomatch z) (fun _ H14 e14 => ?_)
        refine s_forLn (ev_var rfl) (sq_of ((he.trans e14) _ _ h12)) (fun i σ' H' => ∃ (v6 : Option V), σ' = [some (.ref a), some (.ref nl), some (.ref ll), some (.ref rl), some (.int (j : Int)), some (.ref hl), v6] ∧ Ex H12 H') (fun H15 e15 => ⟨_, rfl, (he.trans e14).trans e15⟩) (fun i σ' H' _ ⟨_, _, e⟩ => sq_of (e _ _ h12)) (fun i2 x2 σ2 H2 hx2 ⟨v6, hσ2, he2⟩ => ?_) (fun σ2 H2 ⟨v6, hσ2, he2⟩ => ?_)
        · subst hσ2
          obtain ⟨j2, g, rfl, hj2, hb2⟩ := item hx2
          have sty := st12.ex he2
          have oe := sty.at_ e (List.mem_of_getElem? hj)
          have og := sty.at_ g (List.mem_of_getElem? hj2)
          refine s_when (b := false) (et_is (et_test (ev_op (x := .bl (decide (e.ls = g.ls))) (y := .bl (decide (e.ls = g.ls))) (ev_op (ev_net sty (ev_var rfl) (ev_var rfl) hj) (ev_net sty (ev_var rfl) (ev_var rfl) hj2) (rv_ntEq (oe.nt hb) (og.nt hb2) oe.ps og.ps)) (ev_op (ev_lab (K := K) sty.hll (ev_var rfl) (ev_var rfl) (StAt.lt hj)) (ev_lab (K := K) sty.hll (ev_var rfl) (ev_var rfl) (StAt.lt hj2)) (rv_eqLs (sq_of oe.lb) (sq_of og.lb))) (rv_ne rfl))) (by rw [decide_eq_true rfl]; rfl)) (fun z => nomatch z) (fun _ H15 e15 => ⟨_, rfl, he2.trans e15⟩)
        · subst hσ2
          exact ⟨_, _, rfl, he2⟩
      · subst hσ
        exact s_ret ev_c (fun H13 e13 => q H13)
end
end Fs

set_option Elab.async false
set_option linter.all false
set_option maxRecDepth 100000
set_option maxHeartbeats 8000000
namespace Fs
open PySem PySem.Spec PyProof.Rows L2 Evl FsE FsC FsR FsA FsQ FsK FsW FsS FsB
theorem exm_own {K : PySem.W.Frag} {S : Addr} (h1 : PySem.W.subIn K (.ref S) (.type "BaseException") = some true) (h2 : PySem.W.isClsIn K S = true) (h3 : PySem.W.typeIn K (.ref S) = some (.type "type")) (h4 : PySem.W.subIn K (.ref S) (.ref S) = some true) : PySem.W.exmOne K (.ref S) (.ref S) = some true := by
  unfold PySem.W.exmOne PySem.W.kitCls
  have h2' : (PySem.W.clsIn K S).isSome = true := h2
  simp only [h1, h2', h3, h4, beq_self_eq_true, Bool.and_self, if_true]
theorem kit_no {K : PySem.W.Frag} {S : Addr} {T : String} (h2 : PySem.W.isClsIn K S = true) (h3 : PySem.W.typeIn K (.ref S) = some (.type "type")) (h4 : PySem.W.subIn K (.type T) (.ref S) = some false) : PySem.W.kitOne K (.type T) (.ref S) = some false := by
  unfold PySem.W.kitOne PySem.W.kitCls
  have h2' : (PySem.W.clsIn K S).isSome = true := h2
  have h0 : (Value.type T == Value.ref S) = false := rfl
  simp only [h0, h2', h3, h4, beq_self_eq_true, Bool.and_self, if_true]
  rfl
theorem kit_two {K : PySem.W.Frag} {C S : Addr} (h0 : (Value.ref C == Value.ref S) = false) (h2 : PySem.W.isClsIn K S = true) (h3 : PySem.W.typeIn K (.ref S) = some (.type "type")) (h4 : PySem.W.subIn K (.ref C) (.ref S) = some false) : PySem.W.kitOne K (.ref C) (.ref S) = some false := by
  unfold PySem.W.kitOne PySem.W.kitCls
  have h2' : (PySem.W.clsIn K S).isSome = true := h2
  simp only [h0, h2', h3, h4, beq_self_eq_true, Bool.and_self, if_true]
  rfl
theorem all_mk {P : Program} {w : World} {K : PySem.W.Frag} {h : Heap} {mg : Str → Option Value} {fa : Addr} (X : K.In h) (G : h.Ns mainGlobals mg) (hfa : mg "law" = some (.ref fa))
    {CB : Addr} {nmB qB : Str} {NB cS fB cda cc : Addr} {bsB : List Value} {snB : List Str} {subB : List Value} {abB : Bool} {colB : Option Bool} {ddB : Option Addr} {m0 m1 m2 m3 m5 : Option Value} {ocB kVB dcB pmB ctB ccl clB : Value} {odB anB cdd cld : Option Addr} {slB ccs csl : Array (Option Value)} {vsB : Array Value} {fileB : Str} {tfB : Tok} {zM : Str} {b1 b2 q0 r0 r1 r2 r3 r4 r5 r6 r7 r8 : Pos}
    {zL : Str} {tL : Tok}
    {zD : Str} {tD : Tok}
    {iN : Int} {tN : Tok}
    {iT : Int} {tT : Tok}
    {iM : Int} {tM : Tok}
    {iDe : Int} {tDe : Tok}
    {iSi : Int} {tSi : Tok}
    {aR : Addr} {odR : Option Addr} {slR : Array (Option Value)} {itsR : Array Value} {nR : Nat}
    {C : Addr}
    {finit : Addr} {odinit aninit : Option Addr} {slinit : Array (Option Value)} {ocinit kVinit dcinit pminit cdinit ctinit : Value}
    {fisname : Addr} {odisname anisname : Option Addr} {slisname : Array (Option Value)} {ocisname kVisname dcisname pmisname cdisname ctisname : Value}
    {fisint : Addr} {odisint anisint : Option Addr} {slisint : Array (Option Value)} {ocisint kVisint dcisint pmisint cdisint ctisint : Value}
    {fisshort : Addr} {odisshort anisshort : Option Addr} {slisshort : Array (Option Value)} {ocisshort kVisshort dcisshort pmisshort cdisshort ctisshort : Value}
    {fisop : Addr} {odisop anisop : Option Addr} {slisop : Array (Option Value)} {ocisop kVisop dcisop pmisop cdisop ctisop : Value}
    {fdemand : Addr} {oddemand andemand : Option Addr} {sldemand : Array (Option Value)} {ocdemand kVdemand dcdemand pmdemand cddemand ctdemand : Value}
    {finner : Addr} {odinner aninner : Option Addr} {slinner : Array (Option Value)} {ocinner kVinner dcinner pminner cdinner ctinner : Value}
    {fsize : Addr} {odsize ansize : Option Addr} {slsize : Array (Option Value)} {ocsize kVsize dcsize pmsize cdsize ctsize : Value}
    {fdepth : Addr} {oddepth andepth : Option Addr} {sldepth : Array (Option Value)} {ocdepth kVdepth dcdepth pmdepth cddepth ctdepth : Value}
    {iOp : Int} {tOp : Tok}
    {iMm : Int} {tMm : Tok}
    {pcall : Addr} {restcall : List Value}
    {fstcall : Addr} {odstcall anstcall : Option Addr} {slstcall : Array (Option Value)} {ocstcall kVstcall dcstcall pmstcall cdstcall ctstcall : Value}
    {fpeq : Addr} {odpeq anpeq : Option Addr} {slpeq : Array (Option Value)} {ocpeq kVpeq dcpeq pmpeq cdpeq ctpeq : Value}
    {fpor : Addr} {odpor anpor : Option Addr} {slpor : Array (Option Value)} {ocpor kVpor dcpor pmpor cdpor ctpor : Value}
    {fpmul : Addr} {odpmul anpmul : Option Addr} {slpmul : Array (Option Value)} {ocpmul kVpmul dcpmul pmpmul cdpmul ctpmul : Value}
    {N : Addr}
    {fnin : Addr} {odnin annin : Option Addr} {slnin : Array (Option Value)} {ocnin kVnin dcnin pmnin cdnin ctnin : Value}
    {fnlen : Addr} {odnlen annlen : Option Addr} {slnlen : Array (Option Value)} {ocnlen kVnlen dcnlen pmnlen cdnlen ctnlen : Value}
    {fnget : Addr} {odnget annget : Option Addr} {slnget : Array (Option Value)} {ocnget kVnget dcnget pmnget cdnget ctnget : Value}
    {fneq : Addr} {odneq anneq : Option Addr} {slneq : Array (Option Value)} {ocneq kVneq dcneq pmneq cdneq ctneq : Value}
    {fnor : Addr} {odnor annor : Option Addr} {slnor : Array (Option Value)} {ocnor kVnor dcnor pmnor cdnor ctnor : Value}
    {fnio : Addr} {odnio annio : Option Addr} {slnio : Array (Option Value)} {ocnio kVnio dcnio pmnio cdnio ctnio : Value}
    {fnmul : Addr} {odnmul annmul : Option Addr} {slnmul : Array (Option Value)} {ocnmul kVnmul dcnmul pmnmul cdnmul ctnmul : Value}
    {fmem : Addr} {odmem anmem : Option Addr} {slmem : Array (Option Value)} {ocmem kVmem dcmem pmmem cdmem ctmem : Value}
    {frep : Addr} {odrep anrep : Option Addr} {slrep : Array (Option Value)} {ocrep kVrep dcrep pmrep cdrep ctrep : Value}
    {fcellat : Addr} {odcellat ancellat : Option Addr} {slcellat : Array (Option Value)} {occellat kVcellat dccellat pmcellat cdcellat ctcellat : Value}
    {fmixed : Addr} {odmixed anmixed : Option Addr} {slmixed : Array (Option Value)} {ocmixed kVmixed dcmixed pmmixed cdmixed ctmixed : Value}
    {frow : Addr} {odrow anrow : Option Addr} {slrow : Array (Option Value)} {ocrow kVrow dcrow pmrow cdrow ctrow : Value}
    {flp : Addr} {odlp anlp : Option Addr} {sllp : Array (Option Value)} {oclp kVlp dclp pmlp cdlp ctlp : Value}
    {flis : Addr} {odlis anlis : Option Addr} {sllis : Array (Option Value)} {oclis kVlis dclis pmlis cdlis ctlis : Value}
    {fljo : Addr} {odljo anljo : Option Addr} {slljo : Array (Option Value)} {ocljo kVljo dcljo pmljo cdljo ctljo : Value}
    {flti : Addr} {odlti anlti : Option Addr} {sllti : Array (Option Value)} {oclti kVlti dclti pmlti cdlti ctlti : Value}
    {flli : Addr} {odlli anlli : Option Addr} {sllli : Array (Option Value)} {oclli kVlli dclli pmlli cdlli ctlli : Value}
    {flex : Addr} {odlex anlex : Option Addr} {sllex : Array (Option Value)} {oclex kVlex dclex pmlex cdlex ctlex : Value}
    {flst : Addr} {odlst anlst : Option Addr} {sllst : Array (Option Value)} {oclst kVlst dclst pmlst cdlst ctlst : Value}
    {flaw : Addr} {odlaw anlaw : Option Addr} {sllaw : Array (Option Value)} {oclaw kVlaw dclaw pmlaw cdlaw ctlaw : Value}
    (aB : PySem.W.nsIn K mainGlobals "BadTerm" = some (some (.ref CB)))
    (xB : K.lookup CB = some (excClassObj nmB qB CB NB bsB [.ref cS, .type "ValueError", .type "Exception", .type "BaseException", .type "object"] true snB subB abB colB ddB m0 m1 m2 m3 m5 "ValueError.__new__"))
    (eiB : PySem.W.excInitIn K CB [.type "ValueError", .type "Exception", .type "BaseException", .type "object"] "ValueError.__new__" = true)
    (saB : PySem.W.findIn K (.ref CB) "__setattr__" = some (some (.builtin "object.__setattr__")))
    (noB : PySem.W.findIn K (.ref CB) "field" = some none)
    (iB : PySem.W.findIn K (.ref CB) "__init__" = some (some (.ref fB)))
    (tB : PySem.W.typeIn K (.ref fB) = some (.type "function"))
    (kB : PySem.W.keepIn K (.ref CB) = true)
    (exB : PySem.W.subIn K (.ref CB) (.type "BaseException") = some true)
    (veB : PySem.W.subIn K (.ref CB) (.type "ValueError") = some true)
    (tyB : PySem.W.typeIn K (.ref CB) = some (.type "type"))
    (mroB : PySem.W.mroIn K CB (.ref CB) = some true)
    (spB : PySem.W.ks_superIn K CB CB "__init__" = some (some (.builtin "ValueError.__init__")))
    (opq : PySem.W.nsIn K cStatics "thirdparty.any" = some none)
    (lB : K.lookup fB = some ⟨ocB, odB, .func (PySem.W.ksFn "__init__" "BadTerm.__init__" (FsB.eA b1 b2) (FsB.eB (FsB.eM zM q0) r0 r1 r2 r3 r4 r5 r6 r7 r8) FsB.eS .none kVB dcB pmB anB (.ref cda) ctB cc), slB⟩)
    (cB : PySem.W.codeIn K (.ref cda) "BadTerm.__init__" = true)
    (oB : K.lookup cda = some ⟨ccl, cdd, .fields vsB, ccs⟩)
    (vB : vsB[2]? = some (.str fileB tfB))
    (fB1 : ((P.main.file : Str) == fileB) = true)
    (ceB : K.lookup cc = some ⟨clB, cld, .cell (some (.ref CB)), csl⟩)
    (lnB : (r2.endLine == r3.line) = true)
    (zMB : zM.length ≤ 1000)
    (topB : (P.main.scope.names.lookup ("super" : Str)).isSome = false)
    (gaB : PySem.W.findIn K (.ref CB) "__getattribute__" = some (some (.builtin "BaseException.__getattribute__")))
    (ggB : PySem.W.findIn K (.ref CB) "__getattr__" = some none)
    (hdB : PySem.W.hasDictIn K CB = true)
    (icB : PySem.W.isClsIn K CB = true)
    (sbB : PySem.W.subIn K (.ref CB) (.ref CB) = some true)
    (z_super : PySem.W.nsIn K mainGlobals "super" = some (none))
    (gL : PySem.W.nsIn K mainGlobals "LETTERS" = some (some (.str zL tL)))
    (hL : zL = lettersS)
    (gD : PySem.W.nsIn K mainGlobals "DIGITS" = some (some (.str zD tD)))
    (hD : zD = digitsS)
    (gN : PySem.W.nsIn K mainGlobals "NAME_LENGTH" = some (some (.int iN tN)))
    (hN : iN = 8)
    (gT : PySem.W.nsIn K mainGlobals "TOO_LONG" = some (some (.int iT tT)))
    (hT : iT = 10 ^ 30)
    (gM : PySem.W.nsIn K mainGlobals "MOST_SEATS" = some (some (.int iM tM)))
    (hM : iM = 4)
    (gDe : PySem.W.nsIn K mainGlobals "MOST_DEPTH" = some (some (.int iDe tDe)))
    (hDe : iDe = 20)
    (gSi : PySem.W.nsIn K mainGlobals "MOST_SIZE" = some (some (.int iSi tSi)))
    (hSi : iSi = 400)
    (gR : PySem.W.nsIn K mainGlobals "RESERVED" = some (some (.ref aR)))
    (lR : K.lookup aR = some ⟨.type "tuple", odR, .seq itsR nR, slR⟩)
    (sR : itsR.size ≤ 1000)
    (hR : Vals reservedV itsR.toList)
    (z_isinstance : PySem.W.nsIn K mainGlobals "isinstance" = some (none))
    (z_str : PySem.W.nsIn K mainGlobals "str" = some (none))
    (z_int : PySem.W.nsIn K mainGlobals "int" = some (none))
    (z_bool : PySem.W.nsIn K mainGlobals "bool" = some (none))
    (z_len : PySem.W.nsIn K mainGlobals "len" = some (none))
    (z_all : PySem.W.nsIn K mainGlobals "all" = some (none))
    (aC : PySem.W.nsIn K mainGlobals "Process" = some (some (.ref C)))
    (pg : PySem.W.plainGet K C Str.empty = true)
    (hd : PySem.W.hasDictIn K C = true)
    (po : PySem.W.plainOver K C = true)
    (sa : PySem.W.findIn K (.ref C) "__setattr__" = some (some (.builtin "object.__setattr__")))
    (n_kind : PySem.W.findIn K (.ref C) "kind" = some none)
    (n_parts : PySem.W.findIn K (.ref C) "parts" = some none)
    (n_depth : PySem.W.findIn K (.ref C) "depth" = some none)
    (n_size : PySem.W.findIn K (.ref C) "size" = some none)
    (mk : PySem.W.makesIn K C = true)
    (kc : PySem.W.keepIn K (.ref C) = true)
    (ha : PySem.W.findIn K (.ref C) "__class__" = some (some (.builtin "object.__class__")))
    (hn : PySem.W.specialIn K (.builtin "object.__class__") "__get__" = some (some (.builtin "getset_descriptor.__get__")))
    (ht : PySem.W.takesIn K (.builtin "object.__class__") = some true)
    (hm : PySem.W.mroIn K C (.type "object") = some true)
    (ic : PySem.W.isClsIn K C = true)
    (ty : PySem.W.typeIn K (.ref C) = some (.type "type"))
    (no_str : PySem.W.subIn K (.type "str") (.ref C) = some false)
    (no_int : PySem.W.subIn K (.type "int") (.ref C) = some false)
    (no_tuple : PySem.W.subIn K (.type "tuple") (.ref C) = some false)
    (z_sum : PySem.W.nsIn K mainGlobals "sum" = some (none))
    (z_max : PySem.W.nsIn K mainGlobals "max" = some (none))
    (z_tuple : PySem.W.nsIn K mainGlobals "tuple" = some (none))
    (minit : PySem.W.findIn K (.ref C) "__init__" = some (some (.ref finit)))
    (iinit : PySem.W.isFn K (.ref finit) = true)
    (linit : K.lookup finit = some ⟨ocinit, odinit, .func (PySem.W.fnOf "__init__" "Process.__init__" (defArgs (inClass (topS 27) 0)) (defBody (inClass (topS 27) 0)) (defScope (inClass (topS 27) 0)) .none kVinit dcinit pminit aninit cdinit ctinit), slinit⟩)
    (cinit : PySem.W.codeIn K cdinit "Process.__init__" = true)
    (kinit : PySem.W.keepIn K (.ref finit) = true)
    (aisname : PySem.W.nsIn K mainGlobals "is_name" = some (some (.ref fisname)))
    (lisname : K.lookup fisname = some ⟨ocisname, odisname, .func (PySem.W.fnOf "is_name" "is_name" (defArgs (topS 8)) (defBody (topS 8)) (defScope (topS 8)) .none kVisname dcisname pmisname anisname cdisname ctisname), slisname⟩)
    (cisname : PySem.W.codeIn K cdisname "is_name" = true)
    (kisname : PySem.W.keepIn K (.ref fisname) = true)
    (aisint : PySem.W.nsIn K mainGlobals "is_int" = some (some (.ref fisint)))
    (lisint : K.lookup fisint = some ⟨ocisint, odisint, .func (PySem.W.fnOf "is_int" "is_int" (defArgs (topS 10)) (defBody (topS 10)) (defScope (topS 10)) .none kVisint dcisint pmisint anisint cdisint ctisint), slisint⟩)
    (cisint : PySem.W.codeIn K cdisint "is_int" = true)
    (kisint : PySem.W.keepIn K (.ref fisint) = true)
    (aisshort : PySem.W.nsIn K mainGlobals "is_short" = some (some (.ref fisshort)))
    (lisshort : K.lookup fisshort = some ⟨ocisshort, odisshort, .func (PySem.W.fnOf "is_short" "is_short" (defArgs (topS 11)) (defBody (topS 11)) (defScope (topS 11)) .none kVisshort dcisshort pmisshort anisshort cdisshort ctisshort), slisshort⟩)
    (cisshort : PySem.W.codeIn K cdisshort "is_short" = true)
    (kisshort : PySem.W.keepIn K (.ref fisshort) = true)
    (aisop : PySem.W.nsIn K mainGlobals "is_operand" = some (some (.ref fisop)))
    (lisop : K.lookup fisop = some ⟨ocisop, odisop, .func (PySem.W.fnOf "is_operand" "is_operand" (defArgs (topS 12)) (defBody (topS 12)) (defScope (topS 12)) .none kVisop dcisop pmisop anisop cdisop ctisop), slisop⟩)
    (cisop : PySem.W.codeIn K cdisop "is_operand" = true)
    (kisop : PySem.W.keepIn K (.ref fisop) = true)
    (ademand : PySem.W.nsIn K mainGlobals "demand" = some (some (.ref fdemand)))
    (ldemand : K.lookup fdemand = some ⟨ocdemand, oddemand, .func (PySem.W.fnOf "demand" "demand" (defArgs (topS 23)) (defBody (topS 23)) (defScope (topS 23)) .none kVdemand dcdemand pmdemand andemand cddemand ctdemand), sldemand⟩)
    (cdemand : PySem.W.codeIn K cddemand "demand" = true)
    (kdemand : PySem.W.keepIn K (.ref fdemand) = true)
    (ainner : PySem.W.nsIn K mainGlobals "inner_processes" = some (some (.ref finner)))
    (linner : K.lookup finner = some ⟨ocinner, odinner, .func (PySem.W.fnOf "inner_processes" "inner_processes" (defArgs (topS 24)) (defBody (topS 24)) (defScope (topS 24)) .none kVinner dcinner pminner aninner cdinner ctinner), slinner⟩)
    (cinner : PySem.W.codeIn K cdinner "inner_processes" = true)
    (kinner : PySem.W.keepIn K (.ref finner) = true)
    (asize : PySem.W.nsIn K mainGlobals "size_of" = some (some (.ref fsize)))
    (lsize : K.lookup fsize = some ⟨ocsize, odsize, .func (PySem.W.fnOf "size_of" "size_of" (defArgs (topS 25)) (defBody (topS 25)) (defScope (topS 25)) .none kVsize dcsize pmsize ansize cdsize ctsize), slsize⟩)
    (csize : PySem.W.codeIn K cdsize "size_of" = true)
    (ksize : PySem.W.keepIn K (.ref fsize) = true)
    (adepth : PySem.W.nsIn K mainGlobals "depth_of" = some (some (.ref fdepth)))
    (ldepth : K.lookup fdepth = some ⟨ocdepth, oddepth, .func (PySem.W.fnOf "depth_of" "depth_of" (defArgs (topS 26)) (defBody (topS 26)) (defScope (topS 26)) .none kVdepth dcdepth pmdepth andepth cddepth ctdepth), sldepth⟩)
    (cdepth : PySem.W.codeIn K cddepth "depth_of" = true)
    (kdepth : PySem.W.keepIn K (.ref fdepth) = true)
    (gOp : PySem.W.nsIn K mainGlobals "MOST_OPERANDS" = some (some (.int iOp tOp)))
    (hOp : iOp = 4)
    (gMm : PySem.W.nsIn K mainGlobals "MOST_MACHINES" = some (some (.int iMm tMm)))
    (hMm : iMm = 6)
    (rdC : PySem.W.readsIn K C (.type "type") = true)
    (gaC : PySem.W.specialIn K (.ref C) "__getattribute__" = some (some (.builtin "type.__getattribute__")))
    (scall : PySem.W.findCls K (.ref C) (.type "type") "call" = some (.get (.builtin "staticmethod.__get__") (.ref pcall) .none (.ref C)))
    (rcall : PySem.W.recIn K pcall "staticmethod" = some (.ref fstcall :: restcall))
    (lstcall : K.lookup fstcall = some ⟨ocstcall, odstcall, .func (PySem.W.fnOf "call" "Process.call" (defArgs (inClass (topS 27) 5)) (defBody (inClass (topS 27) 5)) (defScope (inClass (topS 27) 5)) .none kVstcall dcstcall pmstcall anstcall cdstcall ctstcall), slstcall⟩)
    (cstcall : PySem.W.codeIn K cdstcall "Process.call" = true)
    (kstcall : PySem.W.keepIn K (.ref fstcall) = true)
    (mpeq : PySem.W.findIn K (.ref C) "__eq__" = some (some (.ref fpeq)))
    (ipeq : PySem.W.isFn K (.ref fpeq) = true)
    (lpeq : K.lookup fpeq = some ⟨ocpeq, odpeq, .func (PySem.W.fnOf "__eq__" "Process.__eq__" (defArgs (inClass (topS 27) 6)) (defBody (inClass (topS 27) 6)) (defScope (inClass (topS 27) 6)) .none kVpeq dcpeq pmpeq anpeq cdpeq ctpeq), slpeq⟩)
    (cpeq : PySem.W.codeIn K cdpeq "Process.__eq__" = true)
    (kpeq : PySem.W.keepIn K (.ref fpeq) = true)
    (mpor : PySem.W.findIn K (.ref C) "__or__" = some (some (.ref fpor)))
    (ipor : PySem.W.isFn K (.ref fpor) = true)
    (lpor : K.lookup fpor = some ⟨ocpor, odpor, .func (PySem.W.fnOf "__or__" "Process.__or__" (defArgs (inClass (topS 27) 8)) (defBody (inClass (topS 27) 8)) (defScope (inClass (topS 27) 8)) .none kVpor dcpor pmpor anpor cdpor ctpor), slpor⟩)
    (cpor : PySem.W.codeIn K cdpor "Process.__or__" = true)
    (kpor : PySem.W.keepIn K (.ref fpor) = true)
    (mpmul : PySem.W.findIn K (.ref C) "__rmul__" = some (some (.ref fpmul)))
    (ipmul : PySem.W.isFn K (.ref fpmul) = true)
    (lpmul : K.lookup fpmul = some ⟨ocpmul, odpmul, .func (PySem.W.fnOf "__rmul__" "Process.__rmul__" (defArgs (inClass (topS 27) 9)) (defBody (inClass (topS 27) 9)) (defScope (inClass (topS 27) 9)) .none kVpmul dcpmul pmpmul anpmul cdpmul ctpmul), slpmul⟩)
    (cpmul : PySem.W.codeIn K cdpmul "Process.__rmul__" = true)
    (kpmul : PySem.W.keepIn K (.ref fpmul) = true)
    (aCN : PySem.W.nsIn K mainGlobals "Net" = some (some (.ref N)))
    (pgN : PySem.W.plainGet K N Str.empty = true)
    (hdN : PySem.W.hasDictIn K N = true)
    (poN : PySem.W.plainOver K N = true)
    (saN : PySem.W.findIn K (.ref N) "__setattr__" = some (some (.builtin "object.__setattr__")))
    (nN_members : PySem.W.findIn K (.ref N) "members" = some none)
    (mkN : PySem.W.makesIn K N = true)
    (kcN : PySem.W.keepIn K (.ref N) = true)
    (haN : PySem.W.findIn K (.ref N) "__class__" = some (some (.builtin "object.__class__")))
    (hmN : PySem.W.mroIn K N (.type "object") = some true)
    (icN : PySem.W.isClsIn K N = true)
    (tyN : PySem.W.typeIn K (.ref N) = some (.type "type"))
    (mnin : PySem.W.findIn K (.ref N) "__init__" = some (some (.ref fnin)))
    (inin : PySem.W.isFn K (.ref fnin) = true)
    (lnin : K.lookup fnin = some ⟨ocnin, odnin, .func (PySem.W.fnOf "__init__" "Net.__init__" (defArgs (inClass (topS 28) 0)) (defBody (inClass (topS 28) 0)) (defScope (inClass (topS 28) 0)) .none kVnin dcnin pmnin annin cdnin ctnin), slnin⟩)
    (cnin : PySem.W.codeIn K cdnin "Net.__init__" = true)
    (knin : PySem.W.keepIn K (.ref fnin) = true)
    (mnlen : PySem.W.findIn K (.ref N) "__len__" = some (some (.ref fnlen)))
    (inlen : PySem.W.isFn K (.ref fnlen) = true)
    (lnlen : K.lookup fnlen = some ⟨ocnlen, odnlen, .func (PySem.W.fnOf "__len__" "Net.__len__" (defArgs (inClass (topS 28) 1)) (defBody (inClass (topS 28) 1)) (defScope (inClass (topS 28) 1)) .none kVnlen dcnlen pmnlen annlen cdnlen ctnlen), slnlen⟩)
    (cnlen : PySem.W.codeIn K cdnlen "Net.__len__" = true)
    (knlen : PySem.W.keepIn K (.ref fnlen) = true)
    (mnget : PySem.W.findIn K (.ref N) "__getitem__" = some (some (.ref fnget)))
    (inget : PySem.W.isFn K (.ref fnget) = true)
    (lnget : K.lookup fnget = some ⟨ocnget, odnget, .func (PySem.W.fnOf "__getitem__" "Net.__getitem__" (defArgs (inClass (topS 28) 3)) (defBody (inClass (topS 28) 3)) (defScope (inClass (topS 28) 3)) .none kVnget dcnget pmnget annget cdnget ctnget), slnget⟩)
    (cnget : PySem.W.codeIn K cdnget "Net.__getitem__" = true)
    (knget : PySem.W.keepIn K (.ref fnget) = true)
    (mneq : PySem.W.findIn K (.ref N) "__eq__" = some (some (.ref fneq)))
    (ineq : PySem.W.isFn K (.ref fneq) = true)
    (lneq : K.lookup fneq = some ⟨ocneq, odneq, .func (PySem.W.fnOf "__eq__" "Net.__eq__" (defArgs (inClass (topS 28) 4)) (defBody (inClass (topS 28) 4)) (defScope (inClass (topS 28) 4)) .none kVneq dcneq pmneq anneq cdneq ctneq), slneq⟩)
    (cneq : PySem.W.codeIn K cdneq "Net.__eq__" = true)
    (kneq : PySem.W.keepIn K (.ref fneq) = true)
    (mnor : PySem.W.findIn K (.ref N) "__or__" = some (some (.ref fnor)))
    (inor : PySem.W.isFn K (.ref fnor) = true)
    (lnor : K.lookup fnor = some ⟨ocnor, odnor, .func (PySem.W.fnOf "__or__" "Net.__or__" (defArgs (inClass (topS 28) 5)) (defBody (inClass (topS 28) 5)) (defScope (inClass (topS 28) 5)) .none kVnor dcnor pmnor annor cdnor ctnor), slnor⟩)
    (cnor : PySem.W.codeIn K cdnor "Net.__or__" = true)
    (knor : PySem.W.keepIn K (.ref fnor) = true)
    (mnio : PySem.W.findIn K (.ref N) "__ior__" = some (some (.ref fnio)))
    (inio : PySem.W.isFn K (.ref fnio) = true)
    (lnio : K.lookup fnio = some ⟨ocnio, odnio, .func (PySem.W.fnOf "__ior__" "Net.__ior__" (defArgs (inClass (topS 28) 6)) (defBody (inClass (topS 28) 6)) (defScope (inClass (topS 28) 6)) .none kVnio dcnio pmnio annio cdnio ctnio), slnio⟩)
    (cnio : PySem.W.codeIn K cdnio "Net.__ior__" = true)
    (knio : PySem.W.keepIn K (.ref fnio) = true)
    (mnmul : PySem.W.findIn K (.ref N) "__rmul__" = some (some (.ref fnmul)))
    (inmul : PySem.W.isFn K (.ref fnmul) = true)
    (lnmul : K.lookup fnmul = some ⟨ocnmul, odnmul, .func (PySem.W.fnOf "__rmul__" "Net.__rmul__" (defArgs (inClass (topS 28) 7)) (defBody (inClass (topS 28) 7)) (defScope (inClass (topS 28) 7)) .none kVnmul dcnmul pmnmul annmul cdnmul ctnmul), slnmul⟩)
    (cnmul : PySem.W.codeIn K cdnmul "Net.__rmul__" = true)
    (knmul : PySem.W.keepIn K (.ref fnmul) = true)
    (amem : PySem.W.nsIn K mainGlobals "members_of" = some (some (.ref fmem)))
    (lmem : K.lookup fmem = some ⟨ocmem, odmem, .func (PySem.W.fnOf "members_of" "members_of" (defArgs (topS 30)) (defBody (topS 30)) (defScope (topS 30)) .none kVmem dcmem pmmem anmem cdmem ctmem), slmem⟩)
    (cmem : PySem.W.codeIn K cdmem "members_of" = true)
    (kmem : PySem.W.keepIn K (.ref fmem) = true)
    (arep : PySem.W.nsIn K mainGlobals "repeated" = some (some (.ref frep)))
    (lrep : K.lookup frep = some ⟨ocrep, odrep, .func (PySem.W.fnOf "repeated" "repeated" (defArgs (topS 31)) (defBody (topS 31)) (defScope (topS 31)) .none kVrep dcrep pmrep anrep cdrep ctrep), slrep⟩)
    (crep : PySem.W.codeIn K cdrep "repeated" = true)
    (krep : PySem.W.keepIn K (.ref frep) = true)
    (acellat : PySem.W.nsIn K mainGlobals "_law_cell_at" = some (some (.ref fcellat)))
    (lcellat : K.lookup fcellat = some ⟨occellat, odcellat, .func (PySem.W.fnOf "_law_cell_at" "_law_cell_at" (defArgs (topS 33)) (defBody (topS 33)) (defScope (topS 33)) .none kVcellat dccellat pmcellat ancellat cdcellat ctcellat), slcellat⟩)
    (ccellat : PySem.W.codeIn K cdcellat "_law_cell_at" = true)
    (kcellat : PySem.W.keepIn K (.ref fcellat) = true)
    (amixed : PySem.W.nsIn K mainGlobals "_law_mixed" = some (some (.ref fmixed)))
    (lmixed : K.lookup fmixed = some ⟨ocmixed, odmixed, .func (PySem.W.fnOf "_law_mixed" "_law_mixed" (defArgs (topS 34)) (defBody (topS 34)) (defScope (topS 34)) .none kVmixed dcmixed pmmixed anmixed cdmixed ctmixed), slmixed⟩)
    (cmixed : PySem.W.codeIn K cdmixed "_law_mixed" = true)
    (kmixed : PySem.W.keepIn K (.ref fmixed) = true)
    (arow : PySem.W.nsIn K mainGlobals "_law_row" = some (some (.ref frow)))
    (lrow : K.lookup frow = some ⟨ocrow, odrow, .func (PySem.W.fnOf "_law_row" "_law_row" (defArgs (topS 35)) (defBody (topS 35)) (defScope (topS 35)) .none kVrow dcrow pmrow anrow cdrow ctrow), slrow⟩)
    (crow : PySem.W.codeIn K cdrow "_law_row" = true)
    (krow : PySem.W.keepIn K (.ref frow) = true)
    (alp : PySem.W.nsIn K mainGlobals "_law_process" = some (some (.ref flp)))
    (llp : K.lookup flp = some ⟨oclp, odlp, .func (PySem.W.fnOf "_law_process" "_law_process" (defArgs (topS 36)) (defBody (topS 36)) (defScope (topS 36)) .none kVlp dclp pmlp anlp cdlp ctlp), sllp⟩)
    (clp : PySem.W.codeIn K cdlp "_law_process" = true)
    (klp : PySem.W.keepIn K (.ref flp) = true)
    (alis : PySem.W.nsIn K mainGlobals "_law_is" = some (some (.ref flis)))
    (llis : K.lookup flis = some ⟨oclis, odlis, .func (PySem.W.fnOf "_law_is" "_law_is" (defArgs (topS 37)) (defBody (topS 37)) (defScope (topS 37)) .none kVlis dclis pmlis anlis cdlis ctlis), sllis⟩)
    (clis : PySem.W.codeIn K cdlis "_law_is" = true)
    (klis : PySem.W.keepIn K (.ref flis) = true)
    (aljo : PySem.W.nsIn K mainGlobals "_law_joined" = some (some (.ref fljo)))
    (lljo : K.lookup fljo = some ⟨ocljo, odljo, .func (PySem.W.fnOf "_law_joined" "_law_joined" (defArgs (topS 38)) (defBody (topS 38)) (defScope (topS 38)) .none kVljo dcljo pmljo anljo cdljo ctljo), slljo⟩)
    (cljo : PySem.W.codeIn K cdljo "_law_joined" = true)
    (kljo : PySem.W.keepIn K (.ref fljo) = true)
    (alti : PySem.W.nsIn K mainGlobals "_law_times" = some (some (.ref flti)))
    (llti : K.lookup flti = some ⟨oclti, odlti, .func (PySem.W.fnOf "_law_times" "_law_times" (defArgs (topS 39)) (defBody (topS 39)) (defScope (topS 39)) .none kVlti dclti pmlti anlti cdlti ctlti), sllti⟩)
    (clti : PySem.W.codeIn K cdlti "_law_times" = true)
    (klti : PySem.W.keepIn K (.ref flti) = true)
    (alli : PySem.W.nsIn K mainGlobals "_law_listed" = some (some (.ref flli)))
    (llli : K.lookup flli = some ⟨oclli, odlli, .func (PySem.W.fnOf "_law_listed" "_law_listed" (defArgs (topS 40)) (defBody (topS 40)) (defScope (topS 40)) .none kVlli dclli pmlli anlli cdlli ctlli), sllli⟩)
    (clli : PySem.W.codeIn K cdlli "_law_listed" = true)
    (klli : PySem.W.keepIn K (.ref flli) = true)
    (alex : PySem.W.nsIn K mainGlobals "_law_extended" = some (some (.ref flex)))
    (llex : K.lookup flex = some ⟨oclex, odlex, .func (PySem.W.fnOf "_law_extended" "_law_extended" (defArgs (topS 41)) (defBody (topS 41)) (defScope (topS 41)) .none kVlex dclex pmlex anlex cdlex ctlex), sllex⟩)
    (clex : PySem.W.codeIn K cdlex "_law_extended" = true)
    (klex : PySem.W.keepIn K (.ref flex) = true)
    (alst : PySem.W.nsIn K mainGlobals "_law_step" = some (some (.ref flst)))
    (llst : K.lookup flst = some ⟨oclst, odlst, .func (PySem.W.fnOf "_law_step" "_law_step" (defArgs (topS 42)) (defBody (topS 42)) (defScope (topS 42)) .none kVlst dclst pmlst anlst cdlst ctlst), sllst⟩)
    (clst : PySem.W.codeIn K cdlst "_law_step" = true)
    (klst : PySem.W.keepIn K (.ref flst) = true)
    (alaw : PySem.W.nsIn K mainGlobals "law" = some (some (.ref flaw)))
    (llaw : K.lookup flaw = some ⟨oclaw, odlaw, .func (PySem.W.fnOf "law" "law" (defArgs (topS 43)) (defBody (topS 43)) (defScope (topS 43)) .none kVlaw dclaw pmlaw anlaw cdlaw ctlaw), sllaw⟩)
    (claw : PySem.W.codeIn K cdlaw "law" = true)
    (klaw : PySem.W.keepIn K (.ref flaw) = true)
    (fi : PySem.W.fnIn K fnget = true)
    (opC : PySem.W.selfFirst K C = true)
    (opN : PySem.W.selfFirst K N = true)
    (rvC : PySem.W.findIn K (.ref C) "__ror__" = some none)
    (rvN : PySem.W.findIn K (.ref N) "__ror__" = some none)
    (muC : PySem.W.findIn K (.ref C) "__mul__" = some none)
    (muN : PySem.W.findIn K (.ref N) "__mul__" = some none)
    (suC : PySem.W.subIn K (.ref C) (.type "int") = some false)
    (suN : PySem.W.subIn K (.ref N) (.type "int") = some false)
    (sCN : PySem.W.subIn K (.ref C) (.ref N) = some false)
    (sNC : PySem.W.subIn K (.ref N) (.ref C) = some false)
    (eCN : (Value.ref C == Value.ref N) = false)
    (eNC : (Value.ref N == Value.ref C) = false)
    (z_min : PySem.W.nsIn K mainGlobals "min" = some (none))
    (z_abs : PySem.W.nsIn K mainGlobals "abs" = some (none))
    (z_range : PySem.W.nsIn K mainGlobals "range" = some (none)) :
    ∃ fd : FuncData, (∀ (s : Shared) (v : Value), BindsTo s fd ⟨[v], []⟩ [("_law_script", v)]) ∧ ∀ base : Heap, K.In base → base.Ns mainGlobals mg → FnOk P w K mg base CX0 11 fa fd ["_law_script"] (spLaw K) := by
  have e := hfa.symm.trans (PySem.W.mg_of X G alaw)
  cases e
  subst hL hD hN hT hM hDe hSi hOp hMm
  have ER : ErrT K mg CB := { gB := PySem.W.mg_of X G aB, xf := ⟨gaB, ggB, exB, hdB⟩, no := noB, te := exm_own exB icB tyB sbB }
  have TB : ErrTxt P K mg "BadTerm" CB fB := { gC := PySem.W.mg_of X G aB, cls := ⟨nmB, qB, NB, bsB, _, snB, subB, abB, colB, ddB, m0, m1, m2, m3, m5, xB, rfl⟩, ei := eiB, sa := saB, noN := noB, iC := iB, tC := tB, kC := kB, exC := exB, veC := veB, tyC := tyB, slf := mroB, sup := spB, opq := opq, gs := PySem.W.mg_none_of X G z_super, top := topB, fn := ⟨ocB, odB, anB, kVB, dcB, pmB, ctB, slB, _, cda, cc, ccl, clB, cdd, cld, ccs, csl, vsB, fileB, tfB, zM, b1, b2, q0, r0, r1, r2, r3, r4, r5, r6, r7, r8, lB, cB, oB, vB, fB1, ceB, zMB, lnB⟩ }
  have B : BasT K mg := { letters := ⟨_, PySem.W.mg_of X G gL, _, rfl⟩, digits := ⟨_, PySem.W.mg_of X G gD, _, rfl⟩, nlen := ⟨_, PySem.W.mg_of X G gN, _, rfl⟩, reserved := ⟨aR, PySem.W.mg_of X G gR, fun H => .inr ⟨_, _, _, lR, rfl, rfl, by rw [sizeLine_eq]; omega, hR⟩⟩, toolong := ⟨_, PySem.W.mg_of X G gT, _, rfl⟩, seats := ⟨_, PySem.W.mg_of X G gM, _, rfl⟩, isinst := PySem.W.mg_none_of X G z_isinstance, str := PySem.W.mg_none_of X G z_str, int := PySem.W.mg_none_of X G z_int, bool := PySem.W.mg_none_of X G z_bool, len := PySem.W.mg_none_of X G z_len, all := PySem.W.mg_none_of X G z_all }
  have T : TerT K mg C CB := { cl := ⟨pg, hd, po, sa⟩, nK := n_kind, nP := n_parts, nD := n_depth, nS := n_size, mgC := PySem.W.mg_of X G aC, kStr := kit_no ic ty no_str, kInt := kit_no ic ty no_int, kTup := kit_no ic ty no_tuple, ha := ha, hn := hn, htk := ht, hm := hm, sum := PySem.W.mg_none_of X G z_sum, max := PySem.W.mg_none_of X G z_max, tuple := PySem.W.mg_none_of X G z_tuple, depth := ⟨_, PySem.W.mg_of X G gDe, _, rfl⟩, size := ⟨_, PySem.W.mg_of X G gSi, _, rfl⟩ }
  have Finit := fun_mk (st := (inClass (topS 27) 0)) linit cinit kinit
  have Binit := Finit.binds (ps := ["self", "kind", "parts"]) fun _ _ _ _ _ _ us hl => match us, hl with | [_, _, _], _ => rfl
  have Fisname := fun_mk (st := (topS 8)) lisname cisname kisname
  have Bisname := Fisname.binds (ps := ["text"]) fun _ _ _ _ _ _ us hl => match us, hl with | [_], _ => rfl
  have Fisint := fun_mk (st := (topS 10)) lisint cisint kisint
  have Bisint := Fisint.binds (ps := ["value"]) fun _ _ _ _ _ _ us hl => match us, hl with | [_], _ => rfl
  have Fisshort := fun_mk (st := (topS 11)) lisshort cisshort kisshort
  have Bisshort := Fisshort.binds (ps := ["value"]) fun _ _ _ _ _ _ us hl => match us, hl with | [_], _ => rfl
  have Fisop := fun_mk (st := (topS 12)) lisop cisop kisop
  have Bisop := Fisop.binds (ps := ["part"]) fun _ _ _ _ _ _ us hl => match us, hl with | [_], _ => rfl
  have Fdemand := fun_mk (st := (topS 23)) ldemand cdemand kdemand
  have Bdemand := Fdemand.binds (ps := ["allowed", "field"]) fun _ _ _ _ _ _ us hl => match us, hl with | [_, _], _ => rfl
  have Finner := fun_mk (st := (topS 24)) linner cinner kinner
  have Binner := Finner.binds (ps := ["kind", "parts"]) fun _ _ _ _ _ _ us hl => match us, hl with | [_, _], _ => rfl
  have Fsize := fun_mk (st := (topS 25)) lsize csize ksize
  have Bsize := Fsize.binds (ps := ["kind", "parts"]) fun _ _ _ _ _ _ us hl => match us, hl with | [_, _], _ => rfl
  have Fdepth := fun_mk (st := (topS 26)) ldepth cdepth kdepth
  have Bdepth := Fdepth.binds (ps := ["kind", "parts"]) fun _ _ _ _ _ _ us hl => match us, hl with | [_, _], _ => rfl
  have Fstcall := fun_mk (st := (inClass (topS 27) 5)) lstcall cstcall kstcall
  have Bstcall := Fstcall.binds (ps := ["name", "operands"]) fun _ _ _ _ _ _ us hl => match us, hl with | [_, _], _ => rfl
  have Fpeq := fun_mk (st := (inClass (topS 27) 6)) lpeq cpeq kpeq
  have Bpeq := Fpeq.binds (ps := ["self", "other"]) fun _ _ _ _ _ _ us hl => match us, hl with | [_, _], _ => rfl
  have Fpor := fun_mk (st := (inClass (topS 27) 8)) lpor cpor kpor
  have Bpor := Fpor.binds (ps := ["self", "other"]) fun _ _ _ _ _ _ us hl => match us, hl with | [_, _], _ => rfl
  have Fpmul := fun_mk (st := (inClass (topS 27) 9)) lpmul cpmul kpmul
  have Bpmul := Fpmul.binds (ps := ["self", "other"]) fun _ _ _ _ _ _ us hl => match us, hl with | [_, _], _ => rfl
  have Fnin := fun_mk (st := (inClass (topS 28) 0)) lnin cnin knin
  have Bnin := Fnin.binds (ps := ["self", "processes"]) fun _ _ _ _ _ _ us hl => match us, hl with | [_, _], _ => rfl
  have Fnlen := fun_mk (st := (inClass (topS 28) 1)) lnlen cnlen knlen
  have Bnlen := Fnlen.binds (ps := ["self"]) fun _ _ _ _ _ _ us hl => match us, hl with | [_], _ => rfl
  have Fnget := fun_mk (st := (inClass (topS 28) 3)) lnget cnget knget
  have Bnget := Fnget.binds (ps := ["self", "at"]) fun _ _ _ _ _ _ us hl => match us, hl with | [_, _], _ => rfl
  have Fneq := fun_mk (st := (inClass (topS 28) 4)) lneq cneq kneq
  have Bneq := Fneq.binds (ps := ["self", "other"]) fun _ _ _ _ _ _ us hl => match us, hl with | [_, _], _ => rfl
  have Fnor := fun_mk (st := (inClass (topS 28) 5)) lnor cnor knor
  have Bnor := Fnor.binds (ps := ["self", "other"]) fun _ _ _ _ _ _ us hl => match us, hl with | [_, _], _ => rfl
  have Fnio := fun_mk (st := (inClass (topS 28) 6)) lnio cnio knio
  have Bnio := Fnio.binds (ps := ["self", "other"]) fun _ _ _ _ _ _ us hl => match us, hl with | [_, _], _ => rfl
  have Fnmul := fun_mk (st := (inClass (topS 28) 7)) lnmul cnmul knmul
  have Bnmul := Fnmul.binds (ps := ["self", "other"]) fun _ _ _ _ _ _ us hl => match us, hl with | [_, _], _ => rfl
  have Fmem := fun_mk (st := (topS 30)) lmem cmem kmem
  have Bmem := Fmem.binds (ps := ["term"]) fun _ _ _ _ _ _ us hl => match us, hl with | [_], _ => rfl
  have Frep := fun_mk (st := (topS 31)) lrep crep krep
  have Brep := Frep.binds (ps := ["times", "members"]) fun _ _ _ _ _ _ us hl => match us, hl with | [_, _], _ => rfl
  have Fcellat := fun_mk (st := (topS 33)) lcellat ccellat kcellat
  have Bcellat := Fcellat.binds (ps := ["_law_script", "_law_k"]) fun _ _ _ _ _ _ us hl => match us, hl with | [_, _], _ => rfl
  have Fmixed := fun_mk (st := (topS 34)) lmixed cmixed kmixed
  have Bmixed := Fmixed.binds (ps := ["_law_cell", "_law_k"]) fun _ _ _ _ _ _ us hl => match us, hl with | [_, _], _ => rfl
  have Frow := fun_mk (st := (topS 35)) lrow crow krow
  have Brow := Frow.binds (ps := ["_law_cell", "_law_many"]) fun _ _ _ _ _ _ us hl => match us, hl with | [_, _], _ => rfl
  have Flp := fun_mk (st := (topS 36)) llp clp klp
  have Blp := Flp.binds (ps := ["_law_label"]) fun _ _ _ _ _ _ us hl => match us, hl with | [_], _ => rfl
  have Flis := fun_mk (st := (topS 37)) llis clis klis
  have Blis := Flis.binds (ps := ["_law_net", "_law_labels"]) fun _ _ _ _ _ _ us hl => match us, hl with | [_, _], _ => rfl
  have Fljo := fun_mk (st := (topS 38)) lljo cljo kljo
  have Bljo := Fljo.binds (ps := ["_law_one", "_law_two"]) fun _ _ _ _ _ _ us hl => match us, hl with | [_, _], _ => rfl
  have Flti := fun_mk (st := (topS 39)) llti clti klti
  have Blti := Flti.binds (ps := ["_law_many", "_law_one"]) fun _ _ _ _ _ _ us hl => match us, hl with | [_, _], _ => rfl
  have Flli := fun_mk (st := (topS 40)) llli clli klli
  have Blli := Flli.binds (ps := ["_law_labels"]) fun _ _ _ _ _ _ us hl => match us, hl with | [_], _ => rfl
  have Flex := fun_mk (st := (topS 41)) llex clex klex
  have Blex := Flex.binds (ps := ["_law_net", "_law_other"]) fun _ _ _ _ _ _ us hl => match us, hl with | [_, _], _ => rfl
  have Flst := fun_mk (st := (topS 42)) llst clst klst
  have Blst := Flst.binds (ps := ["_law_row_here", "_law_at", "_law_nets", "_law_labels", "_law_k"]) fun _ _ _ _ _ _ us hl => match us, hl with | [_, _, _, _, _], _ => rfl
  have Flaw := fun_mk (st := (topS 43)) llaw claw klaw
  have Blaw := Flaw.binds (ps := ["_law_script"]) fun _ _ _ _ _ _ us hl => match us, hl with | [_], _ => rfl
  have TN : NetT K mg C N := { cl := ⟨pgN, hdN, poN, saN⟩, nM := nN_members, mgN := PySem.W.mg_of X G aCN, mgP := PySem.W.mg_of X G aC, ha := haN, hn := hn, htk := ht, hm := hmN, kPN := kit_two eCN icN tyN sCN, kNP := kit_two eNC ic ty sNC, isi := PySem.W.mg_none_of X G z_isinstance, len := PySem.W.mg_none_of X G z_len, tuple := PySem.W.mg_none_of X G z_tuple, max := PySem.W.mg_none_of X G z_max, min := PySem.W.mg_none_of X G z_min, most := ⟨_, PySem.W.mg_of X G gMm, _, rfl⟩ }
  refine ⟨PySem.W.fnOf "law" "law" (defArgs (topS 43)) (defBody (topS 43)) (defScope (topS 43)) .none kVlaw dclaw pmlaw anlaw cdlaw ctlaw, fun s v => .of_eq rfl, fun base _ _ => ?_⟩
  have Gisname : CalX P w K mg base CX0 1 "is_name" (spPred nameV) := ⟨_, _, _, ok_is_name Fisname B, PySem.W.mg_of X G aisname, kisname, Bisname⟩
  have Gisint : CalX P w K mg base CX0 1 "is_int" (spPred intV) := ⟨_, _, _, ok_is_int Fisint B, PySem.W.mg_of X G aisint, kisint, Bisint⟩
  have Gisshort : CalX P w K mg base CX0 2 "is_short" (spPred shortV) := ⟨_, _, _, ok_is_short Fisshort B Gisint, PySem.W.mg_of X G aisshort, kisshort, Bisshort⟩
  have Gisop : CalX P w K mg base CX0 3 "is_operand" (spPred operandV) := ⟨_, _, _, ok_is_operand Fisop Gisshort Gisname, PySem.W.mg_of X G aisop, kisop, Bisop⟩
  have Ginner : CalX P w K mg base CX0 1 "inner_processes" (spInner C) := ⟨_, _, _, ok_inner Finner B T, PySem.W.mg_of X G ainner, kinner, Binner⟩
  have Gdepth : CalX P w K mg base CX0 2 "depth_of" (spSize C Pr.depth) := ⟨_, _, _, ok_depth Fdepth T Ginner, PySem.W.mg_of X G adepth, kdepth, Bdepth⟩
  have Gsize : CalX P w K mg base CX0 2 "size_of" (spSize C Pr.size) := ⟨_, _, _, ok_size Fsize B T Ginner, PySem.W.mg_of X G asize, ksize, Bsize⟩
  have OD : FnOk P w K mg base (L2.CX P w) 2 fdemand _ ["allowed", "field"] (spDemand CB) := ok_demand Fdemand (raises_bt (k := 1) (by decide) TB)
  have G2d : CalX P w K mg base (L2.CX P w) 2 "demand" (spDemand CB) := ⟨_, _, _, OD, PySem.W.mg_of X G ademand, kdemand, Bdemand⟩
  have G3d : CalX P w K mg base (L2.CX P w) 3 "demand" (spDemand CB) := ⟨_, _, _, OD.mono (by decide), PySem.W.mg_of X G ademand, kdemand, Bdemand⟩
  have GM : MakX P w K mg base (L2.CX P w) 3 "Process" C (spInit C CB) := ⟨_, _, _, ⟨mk, minit, iinit, kc⟩, ok_init Finit T Gdepth Gsize G2d (Nat.le_refl _), PySem.W.mg_of X G aC, Binit⟩
  have L : LawT K mg := { len := PySem.W.mg_none_of X G z_len, int := PySem.W.mg_none_of X G z_int, abs := PySem.W.mg_none_of X G z_abs, range := PySem.W.mg_none_of X G z_range }
  have Gcellat : CalX P w K mg base CX0 1 "_law_cell_at" (spCellAt K) := ⟨_, _, _, ok_cell_at Fcellat L, PySem.W.mg_of X G acellat, kcellat, Bcellat⟩
  have Gmixed : CalX P w K mg base CX0 1 "_law_mixed" spMixed := ⟨_, _, _, ok_mixed Fmixed L, PySem.W.mg_of X G amixed, kmixed, Bmixed⟩
  have Grow : CalX P w K mg base CX0 2 "_law_row" spRow := ⟨_, _, _, ok_row Frow L Gmixed, PySem.W.mg_of X G arow, krow, Brow⟩
  have M : MakT P w K mg base C CB 3 := { make := GM, dem := G3d, name := Gisname, operand := Gisop, mops := ⟨_, PySem.W.mg_of X G gOp, _, rfl⟩, tuple := PySem.W.mg_none_of X G z_tuple, len := PySem.W.mg_none_of X G z_len, all := PySem.W.mg_none_of X G z_all, hk := Nat.le_refl _ }
  have Scall : StaX P w K mg base (L2.CX P w) 5 C "call" (spCall K C CB) := ⟨_, _, _, _, _, ⟨rdC, gaC⟩, ⟨scall, ⟨_, rcall⟩, kstcall⟩, ok_call Fstcall M, Bstcall⟩
  have OP := ok_lp (P := P) (w := w) (base := base) Flp L T Scall
  have Glp : CalX P w K mg base CX0 6 "_law_process" (spLp C) := ⟨_, _, _, OP, PySem.W.mg_of X G alp, klp, Blp⟩
  have Glp9 : CalX P w K mg base CX0 9 "_law_process" (spLp C) := ⟨_, _, _, OP.mono (by decide), PySem.W.mg_of X G alp, klp, Blp⟩
  have ODN : FnOk P w K mg base (L2N.CX P w) 2 fdemand _ ["allowed", "field"] (spDemand CB) := ok_demandN Fdemand (raises_btN (k := 1) (by decide) TB)
  have GDN : CalX P w K mg base (L2N.CX P w) 2 "demand" (spDemand CB) := ⟨_, _, _, ODN, PySem.W.mg_of X G ademand, kdemand, Bdemand⟩
  have OI := ok_ntinit (k := 2) Fnin TN GDN
  have MN3 : MakX P w K mg base (L2N.CX P w) 3 "Net" N (spNtInit K N CB) := ⟨_, _, _, ⟨mkN, mnin, inin, kcN⟩, OI.mono (by decide), PySem.W.mg_of X G aCN, Bnin⟩
  have MN6 : MakX P w K mg base (L2N.CX P w) 6 "Net" N (spNtInit K N CB) := ⟨_, _, _, ⟨mkN, mnin, inin, kcN⟩, OI.mono (by decide), PySem.W.mg_of X G aCN, Bnin⟩
  have MN9 : MakX P w K mg base (L2N.CX P w) 9 "Net" N (spNtInit K N CB) := ⟨_, _, _, ⟨mkN, mnin, inin, kcN⟩, OI.mono (by decide), PySem.W.mg_of X G aCN, Bnin⟩
  have Gmem : CalX P w K mg base CX0 1 "members_of" (spMem C N) := ⟨_, _, _, ok_mem Fmem TN T, PySem.W.mg_of X G amem, kmem, Bmem⟩
  have Grep : CalX P w K mg base CX0 1 "repeated" spRep := ⟨_, _, _, ok_rep Frep TN, PySem.W.mg_of X G arep, krep, Brep⟩
  have ed1 : PySem.dunder Operator.BitOr.info.2 = "__or__" := by decide +kernel
  have er1 : dunderR Operator.BitOr.info.2 = "__ror__" := by decide +kernel
  have ei1 : dunderI Operator.BitOr.info.2 = "__ior__" := by decide +kernel
  have ed2 : PySem.dunder "mul" = "__mul__" := by decide +kernel
  have er2 : dunderR "mul" = "__rmul__" := by decide +kernel
  have nCN : C ≠ N := fun z => by rw [z] at eCN; simp at eCN
  have O : NetO P w K mg base C N CB 5 := ⟨_, _, _, _, ⟨opN, by rw [ed1]; exact mnor, inor⟩, ⟨opC, by rw [ed1]; exact mpor, ipor⟩, ⟨opN, opC, nCN.symm, by rw [ed1]; exact mnor, inor, by rw [er1]; exact rvN, ⟨_, by rw [ed1]; exact mpor⟩, by rw [er1]; exact rvC, sCN⟩, ⟨opC, opN, nCN, by rw [ed1]; exact mpor, ipor, by rw [er1]; exact rvC, ⟨_, by rw [ed1]; exact mnor⟩, by rw [er1]; exact rvN, sNC⟩, ok_ntor (k := 3) (by decide) Fnor TN T MN3 Gmem, ok_pror (k := 3) (by decide) Fpor TN T MN3 Gmem, Bnor, Bpor⟩
  have OM : NetM P w K mg base C N CB 5 := ⟨_, _, _, _, ⟨opN, by rw [ed2]; exact muN, by rw [er2]; exact mnmul, inmul, suN⟩, ⟨opC, by rw [ed2]; exact muC, by rw [er2]; exact mpmul, ipmul, suC⟩, ok_ntmul (k := 3) (by decide) Fnmul TN Gisint MN3 Grep, ok_prmul (k := 3) (by decide) Fpmul Gisint MN3 Grep, Bnmul, Bpmul⟩
  have NH : NetH P w K mg base N := ⟨_, _, ⟨mkN, mnin, inin, kcN⟩, okH_ntinit Fnin TN (okH_demand Fdemand) (PySem.W.mg_of X G ademand) kdemand Bdemand, PySem.W.mg_of X G aCN, Bnin⟩
  have Gljo : CalX P w K mg base CX0 8 "_law_joined" (spJoined C N) := ⟨_, _, _, (ok_joined (k := 4) (by decide) Fljo O NH ER).mono (by decide), PySem.W.mg_of X G aljo, kljo, Bljo⟩
  have Glti : CalX P w K mg base CX0 8 "_law_times" (spTimes C N) := ⟨_, _, _, (ok_times (k := 4) (by decide) Flti OM NH ER).mono (by decide), PySem.W.mg_of X G alti, klti, Blti⟩
  have Glli : CalX P w K mg base CX0 8 "_law_listed" (spListed K C N) := ⟨_, _, _, ok_listed (k := 6) (by decide) Flli Glp MN6 NH ER, PySem.W.mg_of X G alli, klli, Blli⟩
  have IM : InM K N .BitOr fnio := ⟨opN, by rw [ei1]; exact mnio, inio⟩
  have Glex : CalX P w K mg base CX0 8 "_law_extended" (spExt C N) := ⟨_, _, _, (ok_ext (k := 3) Flex IM (ok_ntior (k := 2) (by decide) Fnio TN T GDN Gmem) Bnio ER).mono (by decide), PySem.W.mg_of X G alex, klex, Blex⟩
  have IX : IxM K N fnget := ⟨mnget, inget, fi⟩
  have LM : LenM K N fnlen := ⟨mnlen, inlen⟩
  have Glis : CalX P w K mg base CX0 4 "_law_is" (spIs K C N) := ⟨_, _, _, ok_is Flis L T LM (ok_ntlen Fnlen TN) Bnlen IX (ok_ntget Fnget TN Gisint) Bnget, PySem.W.mg_of X G alis, klis, Blis⟩
  have Glst : CalX P w K mg base CX0 9 "_law_step" (spStep K C N) := ⟨_, _, _, ok_step (k := 8) (by decide) Flst L TN Glis Gljo Glti Glli Glex, PySem.W.mg_of X G alst, klst, Blst⟩
  have PE1 := ok_eqB (P := P) (w := w) (base := base) Fpeq (PySem.W.mg_none_of X G z_isinstance) T mpeq ipeq Bpeq 1
  exact ok_law (k := 9) (by decide) Flaw L Gcellat Grow Glp9 MN9 Glst Glis ⟨mneq, ineq⟩ (ok_nteq (d := 1) (n := 5) Fneq TN T PE1 mpeq ipeq Bpeq) Bneq
theorem walk {l : PySem.W.OpenLaw} {q : Program} {loose : List Str} {XP : (Str → Option Value) → Heap → Prop} {YP : World → Heap → Prop} {d : DefRec} {K : Params → PySem.W.Frag} (hn : l.most = some 63) (hdf : d.params.defaults = [])
    (hY : ∀ (w : World) (h : Heap), YP w h → (K w.params).In h)
    (hF : ∀ (w : World) (mg : Str → Option Value) (fa : Addr) (h : Heap), (K w.params).In h → h.Ns mainGlobals mg → mg d.name = some (.ref fa) →
      ∃ fd : FuncData, (∀ (s : Shared) (u : Value), BindsTo s fd ⟨[u], []⟩ [("_law_script", u)]) ∧ ∀ base : Heap, (K w.params).In base → base.Ns mainGlobals mg → FnOk l.prog w (K w.params) mg base CX0 11 fa fd ["_law_script"] (spLaw (K w.params))) :
    PySem.W.WalkO q loose XP YP l.row.toRowW d [] (fun f vs => PySem.call f vs) :=
  L2.walk_of (n := 63) (k := 11) (x := "_law_script") (CX := fun _ => CX0) (sp := fun w => spLaw (K w.params)) hn (by decide) hdf ⟨rfl, by decide, by decide⟩ hY hF (fun _ _ a ns _ _ hS => ⟨a, ns, rfl, hS, fun _ => rfl⟩) fun _ _ _ _ _ z => z
end Fs

open PySem PySem.W PyProof.Rows
set_option Elab.async false
set_option maxRecDepth 100000 in
set_option maxHeartbeats 0 in
theorem PySem.Challenge.cw_fullseats_k06_nets_holds : PySem.Challenge.rw_fullseats_k06_nets.Holds := by
  w_on; o_law; k_head; (case hw => w_witness2)
  k_fill
  refine Fs.walk (l := PySem.Challenge.rw_fullseats_k06_nets) rfl rfl (fun w h Y => PySem.W.kIn_of Y) ?F
  case F =>
    intro w mg fa h KX G hmg
    refine' Fs.all_mk KX G hmg ?aB ?xB ?eiB ?saB ?noB ?iB ?tB ?kB ?exB ?veB ?tyB ?mroB ?spB ?opq ?lB ?cB ?oB ?vB ?fB1 ?ceB ?lnB ?zMB ?topB ?gaB ?ggB ?hdB ?icB ?sbB ?z_super ?gL ?hL ?gD ?hD ?gN ?hN ?gT ?hT ?gM ?hM ?gDe ?hDe ?gSi ?hSi ?gR ?lR ?sR ?hR ?z_isinstance ?z_str ?z_int ?z_bool ?z_len ?z_all ?aC ?pg ?hd ?po ?sa ?n_kind ?n_parts ?n_depth ?n_size ?mk ?kc ?ha ?hn ?ht ?hm ?ic ?ty ?no_str ?no_int ?no_tuple ?z_sum ?z_max ?z_tuple ?minit ?iinit ?linit ?cinit ?kinit ?aisname ?lisname ?cisname ?kisname ?aisint ?lisint ?cisint ?kisint ?aisshort ?lisshort ?cisshort ?kisshort ?aisop ?lisop ?cisop ?kisop ?ademand ?ldemand ?cdemand ?kdemand ?ainner ?linner ?cinner ?kinner ?asize ?lsize ?csize ?ksize ?adepth ?ldepth ?cdepth ?kdepth ?gOp ?hOp ?gMm ?hMm ?rdC ?gaC ?scall ?rcall ?lstcall ?cstcall ?kstcall ?mpeq ?ipeq ?lpeq ?cpeq ?kpeq ?mpor ?ipor ?lpor ?cpor ?kpor ?mpmul ?ipmul ?lpmul ?cpmul ?kpmul ?aCN ?pgN ?hdN ?poN ?saN ?nN_members ?mkN ?kcN ?haN ?hmN ?icN ?tyN ?mnin ?inin ?lnin ?cnin ?knin ?mnlen ?inlen ?lnlen ?cnlen ?knlen ?mnget ?inget ?lnget ?cnget ?knget ?mneq ?ineq ?lneq ?cneq ?kneq ?mnor ?inor ?lnor ?cnor ?knor ?mnio ?inio ?lnio ?cnio ?knio ?mnmul ?inmul ?lnmul ?cnmul ?knmul ?amem ?lmem ?cmem ?kmem ?arep ?lrep ?crep ?krep ?acellat ?lcellat ?ccellat ?kcellat ?amixed ?lmixed ?cmixed ?kmixed ?arow ?lrow ?crow ?krow ?alp ?llp ?clp ?klp ?alis ?llis ?clis ?klis ?aljo ?lljo ?cljo ?kljo ?alti ?llti ?clti ?klti ?alli ?llli ?clli ?klli ?alex ?llex ?clex ?klex ?alst ?llst ?clst ?klst ?alaw ?llaw ?claw ?klaw ?fi ?opC ?opN ?rvC ?rvN ?muC ?muN ?suC ?suN ?sCN ?sNC ?eCN ?eNC ?z_min ?z_abs ?z_range
    (case aB => k_is)
    (case xB => k_is)
    (case eiB => kx_is)
    (case saB => k_is)
    (case noB => k_is)
    (case iB => k_is)
    (case tB => k_is)
    (case kB => k_is)
    (case exB => k_is)
    (case veB => k_is)
    (case tyB => k_is)
    (case mroB => k_is)
    (case spB => ks_is)
    (case opq => k_is)
    (case lB => k_is)
    (case cB => k_is)
    (case oB => k_is)
    (case vB => rfl)
    (case fB1 => decide +kernel)
    (case ceB => k_is)
    (case lnB => decide +kernel)
    (case zMB => decide +kernel)
    (case topB => decide +kernel)
    (case gaB => k_is)
    (case ggB => k_is)
    (case hdB => k_is)
    (case icB => k_is)
    (case sbB => first | rfl | k_is)
    (case z_super => k_is)
    (case gL => k_is)
    (case hL => decide +kernel)
    (case gD => k_is)
    (case hD => decide +kernel)
    (case gN => k_is)
    (case hN => decide +kernel)
    (case gT => k_is)
    (case hT => decide +kernel)
    (case gM => k_is)
    (case hM => decide +kernel)
    (case gDe => k_is)
    (case hDe => decide +kernel)
    (case gSi => k_is)
    (case hSi => decide +kernel)
    (case gR => k_is)
    (case lR => k_is)
    (case sR => decide +kernel)
    (case hR => exact .cons ⟨_, rfl⟩ (.cons ⟨_, rfl⟩ (.cons ⟨_, rfl⟩ (.cons ⟨_, rfl⟩ (.cons ⟨_, rfl⟩ (.cons ⟨_, rfl⟩ (.cons ⟨_, rfl⟩ (.cons ⟨_, rfl⟩ (.cons ⟨_, rfl⟩ (.cons ⟨_, rfl⟩ (.cons ⟨_, rfl⟩ .nil)))))))))))
    (case z_isinstance => k_is)
    (case z_str => k_is)
    (case z_int => k_is)
    (case z_bool => k_is)
    (case z_len => k_is)
    (case z_all => k_is)
    (case aC => k_is)
    (case pg => k_is)
    (case hd => k_is)
    (case po => k_is)
    (case sa => k_is)
    (case n_kind => k_is)
    (case n_parts => k_is)
    (case n_depth => k_is)
    (case n_size => k_is)
    (case mk => k_is)
    (case kc => k_is)
    (case ha => k_is)
    (case hn => k_is)
    (case ht => k_is)
    (case hm => k_is)
    (case ic => k_is)
    (case ty => k_is)
    (case no_str => k_is)
    (case no_int => k_is)
    (case no_tuple => k_is)
    (case z_sum => k_is)
    (case z_max => k_is)
    (case z_tuple => k_is)
    (case minit => k_is)
    (case iinit => k_is)
    (case linit => k_is)
    (case cinit => k_is)
    (case kinit => k_is)
    (case aisname => k_is)
    (case lisname => k_is)
    (case cisname => k_is)
    (case kisname => k_is)
    (case aisint => k_is)
    (case lisint => k_is)
    (case cisint => k_is)
    (case kisint => k_is)
    (case aisshort => k_is)
    (case lisshort => k_is)
    (case cisshort => k_is)
    (case kisshort => k_is)
    (case aisop => k_is)
    (case lisop => k_is)
    (case cisop => k_is)
    (case kisop => k_is)
    (case ademand => k_is)
    (case ldemand => k_is)
    (case cdemand => k_is)
    (case kdemand => k_is)
    (case ainner => k_is)
    (case linner => k_is)
    (case cinner => k_is)
    (case kinner => k_is)
    (case asize => k_is)
    (case lsize => k_is)
    (case csize => k_is)
    (case ksize => k_is)
    (case adepth => k_is)
    (case ldepth => k_is)
    (case cdepth => k_is)
    (case kdepth => k_is)
    (case gOp => k_is)
    (case hOp => decide +kernel)
    (case gMm => k_is)
    (case hMm => decide +kernel)
    (case rdC => k_is)
    (case gaC => k_is)
    (case scall => k_is)
    (case rcall => k_is)
    (case lstcall => k_is)
    (case cstcall => k_is)
    (case kstcall => k_is)
    (case mpeq => k_is)
    (case ipeq => k_is)
    (case lpeq => k_is)
    (case cpeq => k_is)
    (case kpeq => k_is)
    (case mpor => k_is)
    (case ipor => k_is)
    (case lpor => k_is)
    (case cpor => k_is)
    (case kpor => k_is)
    (case mpmul => k_is)
    (case ipmul => k_is)
    (case lpmul => k_is)
    (case cpmul => k_is)
    (case kpmul => k_is)
    (case aCN => k_is)
    (case pgN => k_is)
    (case hdN => k_is)
    (case poN => k_is)
    (case saN => k_is)
    (case nN_members => k_is)
    (case mkN => k_is)
    (case kcN => k_is)
    (case haN => k_is)
    (case hmN => k_is)
    (case icN => k_is)
    (case tyN => k_is)
    (case mnin => k_is)
    (case inin => k_is)
    (case lnin => k_is)
    (case cnin => k_is)
    (case knin => k_is)
    (case mnlen => k_is)
    (case inlen => k_is)
    (case lnlen => k_is)
    (case cnlen => k_is)
    (case knlen => k_is)
    (case mnget => k_is)
    (case inget => k_is)
    (case lnget => k_is)
    (case cnget => k_is)
    (case knget => k_is)
    (case mneq => k_is)
    (case ineq => k_is)
    (case lneq => k_is)
    (case cneq => k_is)
    (case kneq => k_is)
    (case mnor => k_is)
    (case inor => k_is)
    (case lnor => k_is)
    (case cnor => k_is)
    (case knor => k_is)
    (case mnio => k_is)
    (case inio => k_is)
    (case lnio => k_is)
    (case cnio => k_is)
    (case knio => k_is)
    (case mnmul => k_is)
    (case inmul => k_is)
    (case lnmul => k_is)
    (case cnmul => k_is)
    (case knmul => k_is)
    (case amem => k_is)
    (case lmem => k_is)
    (case cmem => k_is)
    (case kmem => k_is)
    (case arep => k_is)
    (case lrep => k_is)
    (case crep => k_is)
    (case krep => k_is)
    (case acellat => k_is)
    (case lcellat => k_is)
    (case ccellat => k_is)
    (case kcellat => k_is)
    (case amixed => k_is)
    (case lmixed => k_is)
    (case cmixed => k_is)
    (case kmixed => k_is)
    (case arow => k_is)
    (case lrow => k_is)
    (case crow => k_is)
    (case krow => k_is)
    (case alp => k_is)
    (case llp => k_is)
    (case clp => k_is)
    (case klp => k_is)
    (case alis => k_is)
    (case llis => k_is)
    (case clis => k_is)
    (case klis => k_is)
    (case aljo => k_is)
    (case lljo => k_is)
    (case cljo => k_is)
    (case kljo => k_is)
    (case alti => k_is)
    (case llti => k_is)
    (case clti => k_is)
    (case klti => k_is)
    (case alli => k_is)
    (case llli => k_is)
    (case clli => k_is)
    (case klli => k_is)
    (case alex => k_is)
    (case llex => k_is)
    (case clex => k_is)
    (case klex => k_is)
    (case alst => k_is)
    (case llst => k_is)
    (case clst => k_is)
    (case klst => k_is)
    (case alaw => k_is)
    (case llaw => k_is)
    (case claw => k_is)
    (case klaw => k_is)
    (case fi => k_is)
    (case opC => k_is)
    (case opN => k_is)
    (case rvC => k_is)
    (case rvN => k_is)
    (case muC => k_is)
    (case muN => k_is)
    (case suC => k_is)
    (case suN => k_is)
    (case sCN => k_is)
    (case sNC => k_is)
    (case eCN => decide +kernel)
    (case eNC => decide +kernel)
    (case z_min => k_is)
    (case z_abs => k_is)
    (case z_range => k_is)

