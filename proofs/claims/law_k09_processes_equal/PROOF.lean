import PyProof.Rows.All
import Wide.All
import OpenK.AllK
import Wide.FinOn
import KE.DatumOrd
import HandS.Base
import HandS.Call
import HandS.List
import HandS.SortKw
import HandS.ForMost
import HandS.ForExc
import HandS.Evl
import HandS.Walk
import HandS.IsInst
import HandS.Codes
import HandS.Exc
import HandS.ExcOwn
import HandS.ClsMeth
import HandS.Flow
import HandS.Strs
import HandS.TupSets
import HandS.TupAny
import PyProof.StrBlock2
import PyProof.EqAt
import PyProof.EqKinds
import PyProof.TupleCall
import HandS.OwnEq
import KE.Datum
import HandS.Text
import HandS.TryMany
import HandS.WordsExc
import PyProof.NeKinds
import HandS.Style
import KE.KOpsOwn
import PyProof.InstNe
import PyProof.FString
import KE.KSuper
import KE.KExcSuper
import KE.OsGo
import KE.KExcLine
import KE.RegKSuper
import PySem.Challenge.RW_fullseats_k09_processes_equal
set_option Elab.async false
set_option linter.all false
set_option maxRecDepth 100000
set_option maxHeartbeats 2000000
/-! max(xs, default=d) of a list of ints -/
namespace FsR
open PySem PySem.Spec PyProof.Rows L2
def maxFrom (y : Int) (ys : List Int) : Int := ys.foldl max y
def maxDef (d : Int) : List Int → Int
  | [] => d
  | y :: ys => maxFrom y ys
theorem maxOf_eq : ∀ (ys : List Int) (y : Int), PySem.W.maxOf y ys = maxFrom y ys
  | [], y => rfl
  | z :: zs, y => by
    have e : (if PySem.W.DatumOrd.lt y z = true then z else y) = max y z := by
      show (if decide (y < z) = true then z else y) = max y z
      by_cases h : y < z
      · rw [if_pos (decide_eq_true h)]; omega
      · rw [if_neg (by simpa using h)]; omega
    have ih := maxOf_eq zs (max y z)
    unfold PySem.W.maxOf maxFrom at *
    rw [List.foldl_cons, List.foldl_cons, e]
    exact ih
theorem readsAll_ints {h : Heap} : ∀ {vs : List Value} {ns : List Int}, IntsAre vs ns → ∃ as, ReadsAll h vs (ns.map PySem.W.Datum.toD) as
  | _, _, .nil => ⟨[], .nil⟩
  | _, _, .cons n t r => by
    obtain ⟨as, z⟩ := readsAll_ints (h := h) r
    exact ⟨[] ++ as, .cons (.int n t) z⟩
/-- max(xs, default=d) -/
def rMaxD (K : PySem.W.Frag) : List V → List V → Hp → VK → Prop := fun xs zs H Q => ∃ (a : Addr) (ns : List Int) (d : Int), xs = [V.ref a] ∧ zs = [V.int d] ∧ SqL K H a (ns.map V.int) ∧ Q (.int (maxDef d ns)) H
theorem ck_maxD {X : Cx} (hc : X.calm = true) (hu : X.A.units + 1 + 1 < cLine) : CallRK X (.builtin "max") ["default"] (rMaxD X.K) := by
  intro pins s σ H xs zs us ws Q I r rz h
  obtain ⟨a, ns, d, rfl, rfl, hs, q⟩ := h
  obtain ⟨its, rv, hl, _⟩ := I.list hs
  rw [Vals.ref1 r]
  cases rz with
  | cons rd rn =>
    cases rn
    obtain ⟨t, rfl⟩ := rd
    have hI := rv.ints
    show wpAny (model X.prog X.w) X.A (call (.builtin "max") [.ref a] [(Str.ofString "default", .int d t)]) _ _ _
    refine PySem.W.max_list_datum_default (α := Int) (xs := ns) (I.ok.hd hc) hl.isList (readsAll_ints hI) (by show X.A.units + 1 + 0 < cLine; omega) (fun e h' tk hk => ?_) (fun y ys i v h' tk e hi hv hk => ?_)
    · subst e
      exact ⟨.int d, H, I.kept hk, ⟨t, rfl⟩, q⟩
    · subst e
      obtain ⟨as, z⟩ := hv
      have z' : ∃ t', v = Value.int (PySem.W.maxOf y ys) t' := by
        have z2 : Reads h' v (.int (PySem.W.maxOf y ys)) as := z
        cases z2 with
        | int _ t' => exact ⟨t', rfl⟩
      obtain ⟨t', rfl⟩ := z'
      refine ⟨.int (PySem.W.maxOf y ys), H, I.kept hk, ⟨t', rfl⟩, ?_⟩
      rw [maxOf_eq]
      exact q
end FsR

set_option Elab.async false
set_option linter.all false
set_option maxRecDepth 100000
set_option maxHeartbeats 2000000
/-! further Ev lemmas -/
namespace FsE
open PySem L2 Evl
section
variable {K : PySem.W.Frag} {σ : L2.St} {H : Hp} {ta tb tc te : TE} {x y z : V}
theorem ev_chain {r r' : R2} {a b : Bool} (ha : Ev ta σ H x) (hb : Ev tb σ H y) (h1 : RV r x y H (.bl a)) (hc : a = true → Ev tc σ H z) (h2 : a = true → RV r' y z H (.bl b)) : Ev (tChain r r' ta tb tc) σ H (.bl (a && b)) := fun H1 e Q q =>
  ha H1 e _ fun H2 e2 => hb H2 (e.trans e2) _ fun H3 e3 => h1 H3 ((e.trans e2).trans e3) _ fun H4 e4 => ⟨a, rfl, by
    cases a with
    | true =>
      show tc σ H4 _
      exact hc rfl H4 (((e.trans e2).trans e3).trans e4) _ fun H5 e5 => h2 rfl H5 ((((e.trans e2).trans e3).trans e4).trans e5) Q fun H6 e6 => q H6 ((((e2.trans e3).trans e4).trans e5).trans e6)
    | false =>
      show Q (.bl false) H4
      exact q H4 ((e2.trans e3).trans e4)⟩
theorem rc_isi {t T : String} {b : Bool} (ht : ∀ H1, Ex H H1 → TyX K H1 x (.type t)) (hk : kitB t T = some b) : RC (rIsi K) [x, .ty T] H (.bl b) := fun H1 e Q q =>
  ⟨x, .ty T, .type t, .type T, b, rfl, .ty T, ht H1 e, kit_ty hk, q H1 (Ex.refl H1)⟩
theorem rc_isStr {z : Str} {T : String} {b : Bool} (hk : kitB "str" T = some b) : RC (rIsi K) [.str z, .ty T] H (.bl b) := rc_isi (fun _ _ => .base (.str z)) hk
theorem rc_isInt {i : Int} {T : String} {b : Bool} (hk : kitB "int" T = some b) : RC (rIsi K) [.int i, .ty T] H (.bl b) := rc_isi (fun _ _ => .base (.int i)) hk
/-- len of a text -/
theorem rc_lenS {z : Str} (hz : z.length ≤ sizeLine) : RC (fun xs H Q => ∃ a, xs = [.str a] ∧ a.length ≤ sizeLine ∧ Q (.int (a.length : Nat)) H) [.str z] H (.int (z.length : Nat)) := fun H1 _ _ q => ⟨z, rfl, hz, q H1 (Ex.refl H1)⟩
theorem rv_inSign {c : Nat} {z : Str} : RV (fun x y H Q => ∃ (c : Nat) (z : Str), x = .str ⟨#[c]⟩ ∧ y = .str z ∧ Q (.bl (decide (c ∈ z.cps.toList))) H) (.str ⟨#[c]⟩) (.str z) H (.bl (decide (c ∈ z.cps.toList))) := fun H1 _ _ q => ⟨c, z, rfl, rfl, q H1 (Ex.refl H1)⟩
theorem rv_niSign {c : Nat} {z : Str} : RV (fun x y H Q => ∃ (c : Nat) (z : Str), x = .str ⟨#[c]⟩ ∧ y = .str z ∧ Q (.bl (!decide (c ∈ z.cps.toList))) H) (.str ⟨#[c]⟩) (.str z) H (.bl (!decide (c ∈ z.cps.toList))) := fun H1 _ _ q => ⟨c, z, rfl, rfl, q H1 (Ex.refl H1)⟩
/-- a comprehension over a text -/
theorem el_lcS {z : Str} {tl : TE} {j : Nat} {vs : List Nat} {t : TT} (f : Nat → Bool) (v : Nat → V) (h : Ev tl σ H (.str z)) (hz : z.cps.size ≤ 40000) (hw : ∀ x, wipe ((wipe σ vs).set j (some x)) vs = wipe σ vs)
    (ht : ∀ (i : Nat) (c : Nat) H1, Ex H H1 → z.cps[i]? = some c → EvT t ((wipe σ vs).set j (some (.str ⟨#[c]⟩))) H1 (f i)) (he : ∀ (i : Nat) (c : Nat) H1, Ex H H1 → z.cps[i]? = some c → f i = true → Ev te ((wipe σ vs).set j (some (.str ⟨#[c]⟩))) H1 (v i)) :
    EvL (tLc (iStr tl) (gName j) t te vs) σ H (given z.cps.size f v) := fun H0 e Q q => h H0 e _ fun H1 e1 => ⟨z, rfl, fun Dl hD =>
  lc_it walk_str (Cw H1 f v Dl) ⟨hD, Ex.new hD, upd_same⟩ (fun _ _ _ _ => trivial) (fun i x H' H2 hi p y => by
    obtain ⟨rfl, c, hc, rfl⟩ := y
    exact ⟨hw _, cw_turn p (by omega) (ht i c H1 (e.trans e1) hc) (fun hf => he i c H1 (e.trans e1) hc hf)⟩)
    (fun H' p => q Dl H' (fresh_back e1 p.1) (e1.trans p.2.1) p.2.2)⟩
/-- all of a new list of bools -/
theorem ev_all {bs : List Bool} (h : EvL te σ H (bs.map V.bl)) : Ev (tCB (rAll K) (tCons te tNil)) σ H (.bl (bs.all id)) := fun H1 e Q q =>
  h H1 e _ fun p H2 _ e2 hp => ⟨p, bs, rfl, sq_of hp, q H2 e2⟩
/-- given, no test -/
theorem given_all {n : Nat} {v : Nat → V} : given n (fun _ => true) v = (List.range n).map v := by
  unfold given
  rw [List.filter_eq_self.mpr (fun _ _ => rfl)]
theorem et_nil : EvT tYes σ H true := fun H1 _ _ q => q H1 (Ex.refl H1)
theorem range_map {α : Type} (xs : List α) (d : α) (v : α → V) : (List.range xs.length).map (fun i => v (xs.getD i d)) = xs.map v := by
  refine List.ext_getElem? fun i => ?_
  rw [List.getElem?_map, List.getElem?_map]
  by_cases hi : i < xs.length
  · rw [List.getElem?_range hi, List.getElem?_eq_getElem hi]
    show some (v (xs.getD i d)) = some (v xs[i])
    rw [List.getD_eq_getElem?_getD, List.getElem?_eq_getElem hi]
    rfl
  · rw [List.getElem?_eq_none (by rw [List.length_range]; omega), List.getElem?_eq_none (by omega)]
    rfl
/-- [e for c in text] -/
theorem el_lcSm {z : Str} {tl : TE} {j : Nat} {vs : List Nat} (v : Nat → V) (h : Ev tl σ H (.str z)) (hz : z.length ≤ 40000) (hw : ∀ x, wipe ((wipe σ vs).set j (some x)) vs = wipe σ vs)
    (he : ∀ (c : Nat) H1, Ex H H1 → c ∈ z.cps.toList → Ev te ((wipe σ vs).set j (some (.str ⟨#[c]⟩))) H1 (v c)) : EvL (tLc (iStr tl) (gName j) tYes te vs) σ H (z.cps.toList.map v) := by
  have g := el_lcS (te := te) (j := j) (vs := vs) (t := tYes) (fun _ => true) (fun i => v (z.cps.toList.getD i 0)) h hz hw (fun _ _ _ _ _ => et_nil) (fun i c H3 e hc _ => by
    have e1 : z.cps.toList.getD i 0 = c := by
      rw [List.getD_eq_getElem?_getD, Array.getElem?_toList, hc]
      rfl
    rw [e1]
    exact he c H3 e (by rw [List.mem_iff_getElem?]; exact ⟨i, by rw [Array.getElem?_toList, hc]⟩))
  rw [given_all] at g
  have e := range_map z.cps.toList 0 v
  rw [Array.length_toList] at e
  rw [e] at g
  exact g
/-- [e for x in list] -/
theorem el_lcLm {a : Addr} {xs : List V} {tl : TE} {j : Nat} {vs : List Nat} (v : V → V) (h : Ev tl σ H (.ref a)) (hx : SqL K H a xs) (hz : xs.length ≤ 40000) (hw : ∀ x, wipe ((wipe σ vs).set j (some x)) vs = wipe σ vs)
    (he : ∀ (x : V) H1, Ex H H1 → x ∈ xs → Ev te ((wipe σ vs).set j (some x)) H1 (v x)) : EvL (tLc (iList K tl) (gName j) tYes te vs) σ H (xs.map v) := by
  have g := el_lcL (K := K) (te := te) (j := j) (vs := vs) (t := tYes) (fun _ => true) (fun i => v (xs.getD i .non)) h hx hz hw (fun _ _ _ _ _ => et_nil) (fun i x H3 e hc _ => by
    have e1 : xs.getD i .non = x := by
      rw [List.getD_eq_getElem?_getD, hc]
      rfl
    rw [e1]
    exact he x H3 e (List.mem_iff_getElem?.mpr ⟨i, hc⟩))
  rw [given_all, range_map xs .non v] at g
  exact g
/-- [e for x in (a new list)] -/
theorem el_lcNLm {xs : List V} {tl : TE} {j : Nat} {vs : List Nat} (v : V → V) (h : EvL tl σ H xs) (hz : xs.length ≤ 40000) (hw : ∀ x, wipe ((wipe σ vs).set j (some x)) vs = wipe σ vs)
    (he : ∀ (x : V) H1, Ex H H1 → x ∈ xs → Ev te ((wipe σ vs).set j (some x)) H1 (v x)) : EvL (tLc (iList K tl) (gName j) tYes te vs) σ H (xs.map v) := by
  have g := el_lcNL (K := K) (te := te) (j := j) (vs := vs) (t := tYes) (fun _ => true) (fun i => v (xs.getD i .non)) h hz hw (fun _ _ _ _ _ => et_nil) (fun i x H3 e hc _ => by
    have e1 : xs.getD i .non = x := by
      rw [List.getD_eq_getElem?_getD, hc]
      rfl
    rw [e1]
    exact he x H3 e (List.mem_iff_getElem?.mpr ⟨i, hc⟩))
  rw [given_all, range_map xs .non v] at g
  exact g
/-- [e for k in range(n)] -/
theorem el_lcRm {tn : TA} {j : Nat} {vs : List Nat} {n : Int} (v : Nat → V) (h : EvA tn σ H [.int n]) (hn : 0 ≤ n ∧ n ≤ 40000) (hw : ∀ x, wipe ((wipe σ vs).set j (some x)) vs = wipe σ vs)
    (he : ∀ (i : Nat) H1, Ex H H1 → (i : Int) < n → Ev te ((wipe σ vs).set j (some (.int (i : Int)))) H1 (v i)) : EvL (tLc (iRng1 tn) (gName j) tYes te vs) σ H ((List.range n.toNat).map v) := by
  have g := el_lcR1 (te := te) (j := j) (vs := vs) (t := tYes) (fun _ => true) v h hn hw (fun _ _ _ _ => et_nil) (fun i H1 e hi _ => he i H1 e hi)
  rw [given_all] at g
  exact g
/-- a comprehension over a tuple -/
theorem el_lcT {a : Addr} {xs : List V} {tl : TE} {j : Nat} {vs : List Nat} {t : TT} (f : Nat → Bool) (v : Nat → V) (h : Ev tl σ H (.ref a)) (hx : SqT K H a xs) (hz : xs.length ≤ 40000) (hw : ∀ x, wipe ((wipe σ vs).set j (some x)) vs = wipe σ vs)
    (ht : ∀ (i : Nat) (x : V) H1, Ex H H1 → xs[i]? = some x → EvT t ((wipe σ vs).set j (some x)) H1 (f i)) (he : ∀ (i : Nat) (x : V) H1, Ex H H1 → xs[i]? = some x → f i = true → Ev te ((wipe σ vs).set j (some x)) H1 (v i)) :
    EvL (tLc (iTup K tl) (gName j) t te vs) σ H (given xs.length f v) := fun H0 e Q q => h H0 e _ fun H1 e1 => ⟨a, rfl, ⟨xs, ex_t (e.trans e1) hx⟩, fun Dl hD =>
  lc_tup (xs := xs) (Cw H1 f v Dl) ⟨hD, Ex.new hD, upd_same⟩ (fun i H' _ p => ex_t ((e.trans e1).trans p.2.1) hx) (fun i x H' hi p => ⟨hw x, cw_turn p (by have := (List.getElem?_eq_some_iff.mp hi).1; omega) (ht i x H1 (e.trans e1) hi) (fun hf => he i x H1 (e.trans e1) hi hf)⟩)
    (fun H' p => q Dl H' (fresh_back e1 p.1) (e1.trans p.2.1) p.2.2)⟩
theorem ev_fld {a C dx : Addr} {fs : List (Str × V)} {f : Str} {v : V} (h : Ev ta σ H (.ref a)) (hi : H a = some (.ins C dx fs)) (cl : Cls K C) (n : NoAttr K C f) (l : fs.lookup f = some v) : Ev (tFld K ta f) σ H v := fun H1 e Q q =>
  h H1 e _ fun H2 e2 => ⟨a, C, dx, fs, v, rfl, (e.trans e2) _ _ hi, cl, n, l, q H2 e2⟩
theorem ev_sum {ns : List Int} (h : EvL te σ H (ns.map V.int)) : Ev (tCB (rSum K) (tCons te tNil)) σ H (.int ns.sum) := fun H1 e Q q =>
  h H1 e _ fun p H2 _ e2 hp => ⟨p, ns, rfl, sq_of hp, q H2 e2⟩
theorem ev_maxD {ns : List Int} {d : Int} (h : EvL te σ H (ns.map V.int)) : Ev (tCKw (FsR.rMaxD K) (tCons te tNil) (tCons (tC (.int d)) tNil)) σ H (.int (FsR.maxDef d ns)) := fun H1 e Q q =>
  h H1 e _ fun p H2 _ e2 hp => ⟨p, ns, d, rfl, rfl, sq_of hp, q H2 e2⟩
theorem ev_lenT {a : Addr} {xs : List V} (h : Ev ta σ H (.ref a)) (hx : SqT K H a xs) : Ev (tCB (fun xs H Q => ∃ p ys, xs = [V.ref p] ∧ (SqL K H p ys ∨ SqT K H p ys) ∧ Q (.int ys.length) H) (tCons ta tNil)) σ H (.int (xs.length : Int)) := fun H1 e Q q =>
  h H1 e _ fun H2 e2 => ⟨a, xs, rfl, .inr (ex_t (e.trans e2) hx), q H2 e2⟩
theorem rc_isiOwn {C : Addr} {t : Value} {b : Bool} (ht : ∀ H1, Ex H H1 → TyX K H1 x t) (hk : PySem.W.kitOne K t (.ref C) = some b) : RC (rIsi K) [x, .ref C] H (.bl b) := fun H1 e Q q =>
  ⟨x, .ref C, t, .ref C, b, rfl, .own C, ht H1 e, hk, q H1 (Ex.refl H1)⟩
theorem range_ys {xs ys : List V} (hl : ys.length = xs.length) : (List.range xs.length).map (fun i => ys.getD i .non) = ys := by
  have e := range_map ys .non (fun y => y)
  rw [List.map_id', hl] at e
  exact e
/-- comprehensions, the result told by its items -/
theorem el_lcNLy {xs ys : List V} {tl : TE} {j : Nat} {vs : List Nat} (h : EvL tl σ H xs) (hz : xs.length ≤ 40000) (hw : ∀ x, wipe ((wipe σ vs).set j (some x)) vs = wipe σ vs) (hl : ys.length = xs.length)
    (he : ∀ (i : Nat) (x y : V) H1, Ex H H1 → xs[i]? = some x → ys[i]? = some y → Ev te ((wipe σ vs).set j (some x)) H1 y) : EvL (tLc (iList K tl) (gName j) tYes te vs) σ H ys := by
  have g := el_lcNL (K := K) (te := te) (j := j) (vs := vs) (t := tYes) (fun _ => true) (fun i => ys.getD i .non) h hz hw (fun _ _ _ _ _ => et_nil) (fun i x H3 e hc _ => by
    have hi := (List.getElem?_eq_some_iff.mp hc).1
    have hy : ys[i]? = some (ys.getD i .non) := by rw [List.getD_eq_getElem?_getD, List.getElem?_eq_getElem (by omega)]; rfl
    exact he i x _ H3 e hc hy)
  rw [given_all, range_ys hl] at g
  exact g
theorem el_lcLy {a : Addr} {xs ys : List V} {tl : TE} {j : Nat} {vs : List Nat} (h : Ev tl σ H (.ref a)) (hx : SqL K H a xs) (hz : xs.length ≤ 40000) (hw : ∀ x, wipe ((wipe σ vs).set j (some x)) vs = wipe σ vs) (hl : ys.length = xs.length)
    (he : ∀ (i : Nat) (x y : V) H1, Ex H H1 → xs[i]? = some x → ys[i]? = some y → Ev te ((wipe σ vs).set j (some x)) H1 y) : EvL (tLc (iList K tl) (gName j) tYes te vs) σ H ys := by
  have g := el_lcL (K := K) (te := te) (j := j) (vs := vs) (t := tYes) (fun _ => true) (fun i => ys.getD i .non) h hx hz hw (fun _ _ _ _ _ => et_nil) (fun i x H3 e hc _ => by
    have hi := (List.getElem?_eq_some_iff.mp hc).1
    have hy : ys[i]? = some (ys.getD i .non) := by rw [List.getD_eq_getElem?_getD, List.getElem?_eq_getElem (by omega)]; rfl
    exact he i x _ H3 e hc hy)
  rw [given_all, range_ys hl] at g
  exact g
theorem el_lcTy {a : Addr} {xs ys : List V} {tl : TE} {j : Nat} {vs : List Nat} (h : Ev tl σ H (.ref a)) (hx : SqT K H a xs) (hz : xs.length ≤ 40000) (hw : ∀ x, wipe ((wipe σ vs).set j (some x)) vs = wipe σ vs) (hl : ys.length = xs.length)
    (he : ∀ (i : Nat) (x y : V) H1, Ex H H1 → xs[i]? = some x → ys[i]? = some y → Ev te ((wipe σ vs).set j (some x)) H1 y) : EvL (tLc (iTup K tl) (gName j) tYes te vs) σ H ys := by
  have g := el_lcT (K := K) (te := te) (j := j) (vs := vs) (t := tYes) (fun _ => true) (fun i => ys.getD i .non) h hx hz hw (fun _ _ _ _ _ => et_nil) (fun i x H3 e hc _ => by
    have hi := (List.getElem?_eq_some_iff.mp hc).1
    have hy : ys[i]? = some (ys.getD i .non) := by rw [List.getD_eq_getElem?_getD, List.getElem?_eq_getElem (by omega)]; rfl
    exact he i x _ H3 e hc hy)
  rw [given_all, range_ys hl] at g
  exact g
end
end FsE

set_option Elab.async false
set_option linter.all false
set_option maxRecDepth 100000
set_option maxHeartbeats 2000000
/-! A staticmethod that is called off its class. -/
namespace FsR
open PySem PySem.Spec PyProof.Rows L2 ClX
structure SMet (K : PySem.W.Frag) (C : Addr) (mc : Value) (m : Str) (p g : Addr) : Prop where
  at_ : PySem.W.findCls K (.ref C) mc m = some (.get (.builtin "staticmethod.__get__") (.ref p) .none (.ref C))
  rc : ∃ rest, PySem.W.recIn K p "staticmethod" = some (.ref g :: rest)
  kp : PySem.W.keepIn K (.ref g) = true
section
variable {X : Cx} {pins : List (Addr × Obj)} {σ : L2.St} {H : Hp} {s : Shared} {C p g : Addr} {mc : Value} {m : Str} {A : Around} {E : Value → Shared → Prop}
theorem getmethsm_ok {pl : Sem Bool} {Q : Value × List Value → Shared → Prop} (I : Inv X pins σ H s) (r : CRead X.K C mc) (k : SMet X.K C mc m p g)
    (h : ∀ s', Inv X pins σ H s' → Q (.ref g, []) s') : wpAny (model X.prog X.w) A (getMethod (.ref C) m pl) Q E s := by
  obtain ⟨rest, hp⟩ := k.rc
  exact PySem.W.method_cls I.kIn r.ga (PySem.W.cls_bind I.kIn r.rd k.at_ (wpAny_call (PySem.W.sm_get (s := { s with toks := s.toks + 1 }) I.kIn hp (PySem.W.handed_on rfl (h _ (I.tok _))))))
end
/-- C.m(..), e the class at C, m a staticmethod; E: what is wanted of what it raises, at the slots -/
def tStat (C : Addr) (sp : Sp) (E : L2.St → XK) (ta : TE) (t : TA) : TE := fun σ H Q => ta σ H fun x H1 => x = .ref C ∧ t σ H1 fun vs H2 => sp vs H2 Q (E σ)
theorem passesAt_of {CX : CXT} {X : Cx} {E : XK} (h : Passes CX X E) (σ : L2.St) : PassesAt CX X σ E := fun pins H s e s' I c => h pins σ H s e s' I c
section
variable {X : Cx} {CX : CXT} {k : Nat} {C p g : Addr} {mc : Value} {fd : FuncData} {ps : List Str} {sp : Sp} {E : L2.St → XK} {o e : Expr} {es : List Expr} {m : Str} {pos apos : Pos} {ta : TE} {t : TA} {pl : Sem Bool}
theorem pe_stat (he : PE X o ta) (r : CRead X.K C mc) (c : SMet X.K C mc m p g) (F : FnOk X.prog X.w X.K X.mg X.base CX k g fd ps sp) (hr : Room k X.A) (hb : Binds X.K fd ps []) (hx : ∀ σ, PassesAt CX X σ (E σ)) (ha : PA X (e :: es) t)
    (hst : starEach (e :: es) X.env = (false, eval e X.env) :: starEach es X.env := by rfl) (hpl : (backTo pos (starEach es X.env)).any (·.1) = false := by rfl)
    (ht : eval (.Call (.Attribute o m apos) (e :: es) [] pos) X.env = (do
      let ov ← eval o X.env
      standAt apos.atName
      let (f, first) ← holding [ov] (getMethod ov m pl)
      callWith pos f first (backTo pos (starEach (e :: es) X.env)) (backToKw pos (keywordEach [] X.env))) := by rfl) :
    PE X (.Call (.Attribute o m apos) (e :: es) [] pos) (tStat C sp E ta t) := by
  refine ⟨fun pins s σ H Q I h => ?_⟩
  refine PySem.W.methodCall_KW (pl := pl) (thn (he.run pins s σ H _ I h) fun u s1 ⟨x, H1, I1, rx, ex, q⟩ => ?_) ht
  subst ex
  obtain rfl : u = Value.ref C := rx
  refine getmethsm_ok I1 r c fun s2 I2 => ?_
  refine PySem.W.callWith_K (first := []) (h₀ := X.base) I.ok.mod.kin c.kp (thn (ha.run pos pins s2 σ H1 _ I2 q) fun us s3 ⟨vs, H2, I3, rv, q2⟩ => ⟨I3.kIn, ?_⟩) hst hpl
  exact run_fnS F hr hb (hx σ) I3 rv q2
theorem pe_stat0 (he : PE X o ta) (r : CRead X.K C mc) (c : SMet X.K C mc m p g) (F : FnOk X.prog X.w X.K X.mg X.base CX k g fd ps sp) (hr : Room k X.A) (hb : Binds X.K fd ps []) (hx : ∀ σ, PassesAt CX X σ (E σ))
    (ht : eval (.Call (.Attribute o m apos) [] [] pos) X.env = (do
      let ov ← eval o X.env
      standAt apos.atName
      let (f, first) ← holding [ov] (getMethod ov m pl)
      callWith pos f first (backTo pos (starEach [] X.env)) (backToKw pos (keywordEach [] X.env))) := by rfl) :
    PE X (.Call (.Attribute o m apos) [] [] pos) (tStat C sp E ta tNil) := by
  refine ⟨fun pins s σ H Q I h => ?_⟩
  refine PySem.W.methodCall_KW (pl := pl) (thn (he.run pins s σ H _ I h) fun u s1 ⟨x, H1, I1, rx, ex, q⟩ => ?_) ht
  subst ex
  obtain rfl : u = Value.ref C := rx
  refine getmethsm_ok I1 r c fun s2 I2 => ?_
  exact PySem.W.callWith_K0 (first := []) I2.kIn c.kp (run_fnS (us := []) (vs := []) F hr hb (hx σ) I2 .nil q)
end
end FsR

set_option Elab.async false
set_option linter.all false
set_option maxRecDepth 100000
set_option maxHeartbeats 2000000
namespace FsC
open PySem L2 Evl ClX FsR
/-- a def of the module that may be called by its name -/
structure CalX (P : Program) (w : World) (K : PySem.W.Frag) (mg : Str → Option Value) (base : Heap) (CX : CXT) (k : Nat) (x : Str) (sp : Sp) : Prop where
  ex : ∃ (f : Addr) (fd : FuncData) (ps : List Str), FnOk P w K mg base CX k f fd ps sp ∧ mg x = some (.ref f) ∧ PySem.W.keepIn K (.ref f) = true ∧ Binds K fd ps []
/-- C.m, a staticmethod of the class at C -/
structure StaX (P : Program) (w : World) (K : PySem.W.Frag) (mg : Str → Option Value) (base : Heap) (CX : CXT) (k : Nat) (C : Addr) (m : Str) (sp : Sp) : Prop where
  ex : ∃ (p f : Addr) (mc : Value) (fd : FuncData) (ps : List Str), CRead K C mc ∧ SMet K C mc m p f ∧ FnOk P w K mg base CX k f fd ps sp ∧ Binds K fd ps []
/-- C(..): a class that is made by its name -/
structure MakX (P : Program) (w : World) (K : PySem.W.Frag) (mg : Str → Option Value) (base : Heap) (CX : CXT) (k : Nat) (x : Str) (C : Addr) (sp : Sp) : Prop where
  ex : ∃ (f : Addr) (fd : FuncData) (ps : List Str), Mk K C f ∧ FnOk P w K mg base CX k f fd ps sp ∧ mg x = some (.ref C) ∧ Binds K fd ps []
section
variable {X : Cx} {CX : CXT} {k j : Nat} {C : Addr} {x m : Str} {sp : Sp} {E : L2.St → XK} {p pos apos : Pos} {e o : Expr} {es : List Expr} {ta : TE} {t : TA}
theorem pe_cx (c : CalX X.prog X.w X.K X.mg X.base CX k x sp) (hr : Room j X.A) (hk : k ≤ j) (hg : Gl X x) (hx : ∀ σ, PassesAt CX X σ (E σ)) (ha : PA X (e :: es) t)
    (hdb : (x == ("__debug__" : Str)) = false := by decide) (he : starEach (e :: es) X.env = (false, eval e X.env) :: starEach es X.env := by rfl) (hpl : (backTo pos (starEach es X.env)).any (·.1) = false := by rfl) :
    PE X (.Call (.Name x p) (e :: es) [] pos) (tCallS sp E t) := by
  obtain ⟨f, fd, ps, F, hm, kp, b⟩ := c.ex
  exact pe_callS F (hr.mono hk) hg hm kp b hx ha hdb he hpl
theorem pe_sx {pl : Sem Bool} (c : StaX X.prog X.w X.K X.mg X.base CX k C m sp) (hr : Room j X.A) (hk : k ≤ j) (ho : PE X o ta) (hx : ∀ σ, PassesAt CX X σ (E σ)) (ha : PA X (e :: es) t)
    (hst : starEach (e :: es) X.env = (false, eval e X.env) :: starEach es X.env := by rfl) (hpl : (backTo pos (starEach es X.env)).any (·.1) = false := by rfl)
    (ht : eval (.Call (.Attribute o m apos) (e :: es) [] pos) X.env = (do
      let ov ← eval o X.env
      standAt apos.atName
      let (f, first) ← holding [ov] (getMethod ov m pl)
      callWith pos f first (backTo pos (starEach (e :: es) X.env)) (backToKw pos (keywordEach [] X.env))) := by rfl) :
    PE X (.Call (.Attribute o m apos) (e :: es) [] pos) (tStat C sp E ta t) := by
  obtain ⟨p, f, mc, fd, ps, r, s, F, b⟩ := c.ex
  exact pe_stat (pl := pl) ho r s F (hr.mono hk) b hx ha hst hpl ht
theorem pe_sx0 {pl : Sem Bool} (c : StaX X.prog X.w X.K X.mg X.base CX k C m sp) (hr : Room j X.A) (hk : k ≤ j) (ho : PE X o ta) (hx : ∀ σ, PassesAt CX X σ (E σ))
    (ht : eval (.Call (.Attribute o m apos) [] [] pos) X.env = (do
      let ov ← eval o X.env
      standAt apos.atName
      let (f, first) ← holding [ov] (getMethod ov m pl)
      callWith pos f first (backTo pos (starEach [] X.env)) (backToKw pos (keywordEach [] X.env))) := by rfl) :
    PE X (.Call (.Attribute o m apos) [] [] pos) (tStat C sp E ta tNil) := by
  obtain ⟨p, f, mc, fd, ps, r, s, F, b⟩ := c.ex
  exact pe_stat0 (pl := pl) ho r s F (hr.mono hk) b hx ht
theorem pe_mx {E : XK} (c : MakX X.prog X.w X.K X.mg X.base CX k x C sp) (hr : Room j X.A) (hk : k + 1 ≤ j) (hg : Gl X x) (hx : Passes CX X E) (ha : PA X (e :: es) t)
    (hdb : (x == ("__debug__" : Str)) = false := by decide) (he : starEach (e :: es) X.env = (false, eval e X.env) :: starEach es X.env := by rfl) (hpl : (backTo pos (starEach es X.env)).any (·.1) = false := by rfl) :
    PE X (.Call (.Name x p) (e :: es) [] pos) (tMake C sp [] E t) := by
  obtain ⟨f, fd, ps, M, F, hm, b⟩ := c.ex
  exact pe_make M F (hr.mono hk) hg hm b .nil hx ha hdb he hpl
theorem at0 {X : Cx} {E : L2.St → XK} : ∀ σ, PassesAt CX0 X σ (E σ) := fun _ _ _ _ _ _ _ h => h.elim
/-- what a call within a def that may raise lets out -/
theorem atX {P : Program} {w : World} {X : Cx} {E : XK} (h : Passes (L2.CX P w) X E) : ∀ σ, PassesAt (L2.CX P w) X σ ((fun _ => E) σ) := fun σ => passesAt_of h σ
end
section
variable {σ : L2.St} {H : Hp} {z : V} {sp : Sp} {ta : TA} {vs : List V} {E : L2.St → XK}
theorem ev_cx (h : EvA ta σ H vs) (hs : SpV sp vs H z) : Ev (tCallS sp E ta) σ H z := fun H1 e Q q =>
  h H1 e _ fun H2 e2 => hs H2 (e.trans e2) Q (fun H3 e3 => q H3 (e2.trans e3)) (E σ)
theorem ev_sx {C : Addr} {to : TE} (ho : Ev to σ H (.ref C)) (h : EvA ta σ H vs) (hs : SpV sp vs H z) : Ev (tStat C sp E to ta) σ H z := fun H1 e Q q =>
  ho H1 e _ fun H2 e2 => ⟨rfl, h H2 (e.trans e2) _ fun H3 e3 => hs H3 ((e.trans e2).trans e3) Q (fun H4 e4 => q H4 ((e2.trans e3).trans e4)) (E σ)⟩
theorem el_cx {xs : List V} (h : EvA ta σ H vs) (hs : SpL sp vs H xs) : EvL (tCallS sp E ta) σ H xs := fun H1 e Q q =>
  h H1 e _ fun H2 e2 => hs H2 (e.trans e2) Q (fun p H3 hp e3 h3 => q p H3 (fresh_back e2 hp) (e2.trans e3) h3) (E σ)
end
end FsC

set_option Elab.async false
set_option linter.all false
set_option maxRecDepth 100000
set_option maxHeartbeats 2000000
namespace Fs
open PySem L2 Evl
/-! ### operands, processes, offers -/
inductive Opd where
  | int (i : Int)
  | nm (z : Str)
def Opd.v : Opd → V
  | .int i => .int i
  | .nm z => .str z
mutual
inductive Pr where
  | choice (os : Ofs)
  | new (n : Str) (k : Int) (r : Pr)
  | cond (l r : Opd) (y n : Pr)
  | call (n : Str) (ops : List Opd)
inductive Ofs where
  | nil
  | cons (c : Str) (seat seats : Int) (op : Opd) (names : List Str) (rest : Pr) (os : Ofs)
end
mutual
def Pr.depth : Pr → Int
  | .choice os => 1 + os.depth
  | .new _ _ r => 1 + r.depth
  | .cond _ _ y n => 1 + max y.depth n.depth
  | .call _ _ => 1
def Ofs.depth : Ofs → Int
  | .nil => 0
  | .cons _ _ _ _ _ r os => max r.depth os.depth
end
def Ofs.len : Ofs → Nat
  | .nil => 0
  | .cons _ _ _ _ _ _ os => os.len + 1
mutual
def Pr.size : Pr → Int
  | .choice os => max 1 (os.len : Int) + os.sum
  | .new _ _ r => 1 + r.size
  | .cond _ _ y n => 1 + (y.size + n.size)
  | .call _ _ => 1
def Ofs.sum : Ofs → Int
  | .nil => 0
  | .cons _ _ _ _ _ r os => r.size + os.sum
end
def Pr.kind : Pr → Str
  | .choice _ => "choice"
  | .new _ _ _ => "new"
  | .cond _ _ _ _ => "if"
  | .call _ _ => "call"
/-- the attributes, in the order in which __init__ stores them -/
def pFlds (k : Str) (t : Addr) (d z : Int) : List (Str × V) := putF "size" (.int z) (putF "depth" (.int d) (putF "parts" (.ref t) (putF "kind" (.str k) [])))
theorem n1 : ¬ (("kind" : Str) = "parts") := by decide +kernel
theorem n2 : ¬ (("kind" : Str) = "depth") := by decide +kernel
theorem n3 : ¬ (("kind" : Str) = "size") := by decide +kernel
theorem n4 : ¬ (("parts" : Str) = "depth") := by decide +kernel
theorem n5 : ¬ (("parts" : Str) = "size") := by decide +kernel
theorem n6 : ¬ (("depth" : Str) = "size") := by decide +kernel
theorem pf_kind {k : Str} {t : Addr} {d z : Int} : (pFlds k t d z).lookup ("kind" : Str) = some (.str k) := by
  unfold pFlds
  rw [lookup_putF, if_neg n3, lookup_putF, if_neg n2, lookup_putF, if_neg n1, lookup_putF, if_pos rfl]
theorem pf_parts {k : Str} {t : Addr} {d z : Int} : (pFlds k t d z).lookup ("parts" : Str) = some (.ref t) := by
  unfold pFlds
  rw [lookup_putF, if_neg n5, lookup_putF, if_neg n4, lookup_putF, if_pos rfl]
theorem pf_depth {k : Str} {t : Addr} {d z : Int} : (pFlds k t d z).lookup ("depth" : Str) = some (.int d) := by
  unfold pFlds
  rw [lookup_putF, if_neg n6, lookup_putF, if_pos rfl]
theorem pf_size {k : Str} {t : Addr} {d z : Int} : (pFlds k t d z).lookup ("size" : Str) = some (.int z) := by
  unfold pFlds
  rw [lookup_putF, if_pos rfl]
/-- an instance of the class at C with these parts -/
def InsAt (C : Addr) (H : Hp) (a : Addr) (k : Str) (t : Addr) (d z : Int) : Prop := ∃ dx, H a = some (.ins C dx (pFlds k t d z))
mutual
/-- at a stands the process p -/
def PrAt (C : Addr) (H : Hp) (a : Addr) : Pr → Prop
  | .choice os => ∃ t ps, InsAt C H a "choice" t (1 + os.depth) (max 1 (os.len : Int) + os.sum) ∧ H t = some (.tup ps) ∧ OfsAt C H ps os
  | .new n k r => ∃ t b, InsAt C H a "new" t (1 + r.depth) (1 + r.size) ∧ H t = some (.tup [.str n, .int k, .ref b]) ∧ PrAt C H b r
  | .cond l r y n => ∃ t b c, InsAt C H a "if" t (1 + max y.depth n.depth) (1 + (y.size + n.size)) ∧ H t = some (.tup [l.v, r.v, .ref b, .ref c]) ∧ PrAt C H b y ∧ PrAt C H c n
  | .call n ops => ∃ t u, InsAt C H a "call" t 1 1 ∧ H t = some (.tup [.str n, .ref u]) ∧ H u = some (.tup (ops.map Opd.v))
def OfsAt (C : Addr) (H : Hp) (ps : List V) : Ofs → Prop
  | .nil => ps = []
  | .cons c s m op ns r os => ∃ o u b qs, ps = .ref o :: qs ∧ H o = some (.tup [.str c, .int s, .int m, op.v, .ref u, .ref b]) ∧ H u = some (.tup (ns.map V.str)) ∧ PrAt C H b r ∧ OfsAt C H qs os
end
theorem InsAt.ex {C : Addr} {H H' : Hp} {a : Addr} {k : Str} {t : Addr} {d z : Int} (e : Ex H H') (h : InsAt C H a k t d z) : InsAt C H' a k t d z := by
  obtain ⟨dx, h⟩ := h
  exact ⟨dx, e _ _ h⟩
mutual
theorem PrAt.ex {C : Addr} {H H' : Hp} (e : Ex H H') : ∀ {p : Pr} {a : Addr}, PrAt C H a p → PrAt C H' a p
  | .choice os, a, h => by
    unfold PrAt at h ⊢
    obtain ⟨t, ps, h1, h2, h3⟩ := h
    exact ⟨t, ps, h1.ex e, e _ _ h2, OfsAt.ex e h3⟩
  | .new n k r, a, h => by
    unfold PrAt at h ⊢
    obtain ⟨t, b, h1, h2, h3⟩ := h
    exact ⟨t, b, h1.ex e, e _ _ h2, PrAt.ex e h3⟩
  | .cond l r y n, a, h => by
    unfold PrAt at h ⊢
    obtain ⟨t, b, c, h1, h2, h3, h4⟩ := h
    exact ⟨t, b, c, h1.ex e, e _ _ h2, PrAt.ex e h3, PrAt.ex e h4⟩
  | .call n ops, a, h => by
    unfold PrAt at h ⊢
    obtain ⟨t, u, h1, h2, h3⟩ := h
    exact ⟨t, u, h1.ex e, e _ _ h2, e _ _ h3⟩
theorem OfsAt.ex {C : Addr} {H H' : Hp} (e : Ex H H') : ∀ {os : Ofs} {ps : List V}, OfsAt C H ps os → OfsAt C H' ps os
  | .nil, ps, h => by
    unfold OfsAt at h ⊢
    exact h
  | .cons c s m op ns r os, ps, h => by
    unfold OfsAt at h ⊢
    obtain ⟨o, u, b, qs, h1, h2, h3, h4, h5⟩ := h
    exact ⟨o, u, b, qs, h1, e _ _ h2, e _ _ h3, PrAt.ex e h4, OfsAt.ex e h5⟩
end
/-- whatever the process: its instance -/
theorem PrAt.ins {C : Addr} {H : Hp} {p : Pr} {a : Addr} (h : PrAt C H a p) : ∃ t ps, InsAt C H a p.kind t p.depth p.size ∧ H t = some (.tup ps) := by
  cases p with
  | choice os =>
    unfold PrAt at h
    obtain ⟨t, ps, h1, h2, _⟩ := h
    exact ⟨t, ps, by unfold Pr.kind Pr.depth Pr.size; exact h1, h2⟩
  | new n k r =>
    unfold PrAt at h
    obtain ⟨t, b, h1, h2, _⟩ := h
    exact ⟨t, _, by unfold Pr.kind Pr.depth Pr.size; exact h1, h2⟩
  | cond l r y n =>
    unfold PrAt at h
    obtain ⟨t, b, c, h1, h2, _⟩ := h
    exact ⟨t, _, by unfold Pr.kind Pr.depth Pr.size; exact h1, h2⟩
  | call n ops =>
    unfold PrAt at h
    obtain ⟨t, u, h1, h2, _⟩ := h
    exact ⟨t, _, by unfold Pr.kind Pr.depth Pr.size; exact h1, h2⟩
end Fs

set_option Elab.async false
set_option linter.all false
set_option maxRecDepth 100000
set_option maxHeartbeats 2000000
namespace Fs
open PySem L2 Evl FsE FsC
def topS (i : Nat) : Stmt := PySem.Challenge.pw_fullseats_k09_processes_equal.main.body.getD i (.Pass ⟨0, 0, 0, 0⟩)
/-! ### names -/
def lettersS : Str := "abcdefghijklmnopqrstuvwxyz"
def digitsS : Str := "0123456789"
def reservedV : List V := [.str "stop", .str "new", .str "if", .str "then", .str "else", .str "put", .str "get", .str "channel", .str "at", .str "define", .str "start"]
def signOk (c : Nat) : Bool := decide (c ∈ lettersS.cps.toList) || decide (c ∈ digitsS.cps.toList)
def nameS (z : Str) : Bool := decide (1 ≤ z.length) && decide (z.length ≤ 8) && decide (z.cps.toList.headD 0 ∈ lettersS.cps.toList) && !inV (.str z) reservedV && z.cps.toList.all signOk
def nameV : V → Bool
  | .str z => nameS z
  | _ => false
/-- an operand's kind of value: an int, or a text of a length within the line -/
def OpV : V → Prop
  | .int _ => True
  | .str z => z.length ≤ 40000
  | _ => False
def spPred (f : V → Bool) : Sp := fun vs H Q _ => ∃ v, vs = [v] ∧ OpV v ∧ RetV (.bl (f v)) H Q
def GC (mg : Str → Option Value) (x : Str) (v : V) : Prop := ∃ u, mg x = some u ∧ RelV v u
structure BasT (K : PySem.W.Frag) (mg : Str → Option Value) : Prop where
  letters : GC mg "LETTERS" (.str lettersS)
  digits : GC mg "DIGITS" (.str digitsS)
  nlen : GC mg "NAME_LENGTH" (.int 8)
  reserved : ∃ a, mg "RESERVED" = some (.ref a) ∧ ∀ H, SqT K H a reservedV
  toolong : GC mg "TOO_LONG" (.int (10 ^ 30))
  seats : GC mg "MOST_SEATS" (.int 4)
  isinst : mg "isinstance" = none
  str : mg "str" = none
  int : mg "int" = none
  bool : mg "bool" = none
  len : mg "len" = none
  all : mg "all" = none
theorem str_len (z : Str) : z.length = z.cps.toList.length := by
  unfold Str.length
  rw [Array.length_toList]
section
variable {P : Program} {w : World} {K : PySem.W.Frag} {mg : Str → Option Value} {base : Heap}
theorem scName : FnScope ["text", "sign"] ["text"] (defScope (topS 7)) := ⟨rfl, rfl, rfl, by decide +kernel, rfl, by decide +kernel, by decide +kernel⟩
theorem ok_is_name {f : Addr} {fd : FuncData} (F : Fun K "is_name" "is_name" (topS 7) f fd) (T : BasT K mg) : FnOk P w K mg base CX0 1 f fd ["text"] (spPred nameV) := by
  refine F.ok scName (fun vs H Q E h => ?_) (fun cdv A outer s H vs Q E hr h => ?_)
  · obtain ⟨v, rfl, _⟩ := h
    rfl
  · obtain ⟨v, rfl, hv, k⟩ := h
    obtain ⟨aR, gR, hR⟩ := T.reserved
    refine ⟨_, pss_cons (ps_if (PW.pt (pw_or (pt_not (pt_val (pe_callB call_isi (by rfl) T.isinst (by decide +kernel) (pa_cons (pv 0) (pa_cons (pe_bltn (v := .ty "str") (by rfl) T.str (by decide +kernel) rfl) pa_nil)))))
        (pw_or1 (pt_not (pt_chain op_le op_le pe_int (pe_callB call_len_str (by rfl) T.len PySem.boot_len (pa_cons (pv 0) pa_nil)) (C8.pe_gc (by rfl) T.nlen)))))) (pss_one (ps_ret pe_bl)) pss_nil)
      (pss_cons (ps_if (PW.pt (pw_or (pt_cmpR op_notIn_sign (pe_ix ix_str (pv 0) pe_int (fun _ _ => rfl)) (C8.pe_gc (by rfl) T.letters) (by rfl))
        (pw_or1 (pt_cmpR op_in_seq (pv 0) (pe_glob (v := .ref aR) (by rfl) gR rfl) (by rfl))))) (pss_one (ps_ret pe_bl)) pss_nil)
      (pss_one (ps_ret (pe_callB (cr_all rfl) (by rfl) T.all (by decide +kernel) (pa_cons
        (pe_lc (own := [("sign", 1)]) (g := gName 1) (tt := tYes) rfl scName.nd (pi_str (pv 0)) (blkOk_by (own := [("sign", 1)]) (N := ["text", "sign"]) (sc := defScope (topS 7)) (by decide +kernel))
          (fun _ _ _ _ _ => pg_name (i := 1) scName.nd rfl (Or.inl rfl)) (fun _ _ _ _ _ => pts_nil)
          (fun _ _ _ _ _ => pe_or (pe_cmpR op_in_sign (pv 1) (C8.pe_gc (by rfl) T.letters) (by rfl)) (pe_one (pe_cmpR op_in_sign (pv 1) (C8.pe_gc (by rfl) T.digits) (by rfl))))) pa_nil))))), ?_⟩
    cases v with
    | int i =>
      refine q_when (b := true) (et_is (et_or (et_not (et_B (ev_cb (ea_cons (ev_var rfl) (ea_cons ev_c ea_nil)) (rc_isInt (b := false) (by decide +kernel))))) (fun q => nomatch q) (b := true)) rfl) (fun _ H1 e1 => ?_) (fun q => nomatch q)
      exact s_ret ev_c fun H2 e2 => k H2 (e1.trans e2)
    | str z =>
      have hz : z.length ≤ 40000 := hv
      have hz2 : z.length ≤ sizeLine := sz_of (by omega)
      refine q_when (b := !(decide ((1 : Int) ≤ (z.length : Nat)) && decide (((z.length : Nat) : Int) ≤ 8))) (et_is (et_or (et_not (et_B (ev_cb (ea_cons (ev_var rfl) (ea_cons ev_c ea_nil)) (rc_isStr (b := true) (by decide +kernel)))))
        (fun _ => et_not (et_test (ev_chain ev_c (ev_cb (ea_cons (ev_var rfl) ea_nil) (rc_lenS hz2)) rv_I0 (fun _ => ev_c) (fun _ => rv_I0))))) rfl) (fun hb H1 e1 => ?_) (fun hb H1 e1 => ?_)
      · refine s_ret ev_c fun H2 e2 => ?_
        have e : nameV (.str z) = false := by
          show nameS z = false
          unfold nameS
          have : (decide (1 ≤ z.length) && decide (z.length ≤ 8)) = false := by
            have hb' : ((z.length : Nat) : Int) < 1 ∨ 8 < ((z.length : Nat) : Int) := by simpa using hb
            simp only [Bool.and_eq_false_iff, decide_eq_false_iff_not]
            omega
          rw [this]
          rfl
        have q := k H2 (e1.trans e2)
        rw [e] at q
        exact q
      · have hb' : 1 ≤ z.length ∧ z.length ≤ 8 := by
          have : ((1 : Int) ≤ (z.length : Nat) ∧ ((z.length : Nat) : Int) ≤ 8) := by simpa using hb
          omega
        obtain ⟨c, r, hc⟩ : ∃ c r, z.cps.toList = c :: r := by
          cases e : z.cps.toList with
          | nil =>
            have := str_len z
            rw [e] at this
            simp at this
            omega
          | cons c r => exact ⟨c, r, rfl⟩
        have h0 : atI z.cps.toList 0 = some c := atI_nat (j := 0) (by rw [hc]; rfl)
        refine q_when (b := !decide (c ∈ lettersS.cps.toList) || inV (.str z) reservedV) (et_or (et_test (ev_op (ev_op (ev_var rfl) ev_c (rv_ixS (by omega) h0)) ev_c rv_niSign))
          (fun _ => et_test (ev_op (ev_var rfl) ev_c (rv_isT (hR _) rfl (by decide +kernel))))) (fun hb2 H2 e2 => ?_) (fun hb2 H2 e2 => ?_)
        · refine s_ret ev_c fun H3 e3 => ?_
          have e : nameV (.str z) = false := by
            show nameS z = false
            unfold nameS
            rw [hc]
            have : (decide (c ∈ lettersS.cps.toList) && !inV (.str z) reservedV) = false := by
              rw [Bool.or_eq_true] at hb2
              rcases hb2 with hb2 | hb2
              · have : decide (c ∈ lettersS.cps.toList) = false := by simpa using hb2
                rw [this]
                rfl
              · rw [hb2]
                simp
            show (decide (1 ≤ z.length) && decide (z.length ≤ 8) && decide (c ∈ lettersS.cps.toList) && !inV (.str z) reservedV && (c :: r).all signOk) = false
            rw [Bool.and_assoc (decide (1 ≤ z.length) && decide (z.length ≤ 8)), this]
            simp
          have q := k H3 ((e1.trans e2).trans e3)
          rw [e] at q
          exact q
        · refine s_ret (ev_all (bs := z.cps.toList.map signOk) (by
            rw [List.map_map]
            exact el_lcSm (V.bl ∘ signOk) (ev_var rfl) (by omega) (fun _ => rfl) (fun c H3 _ _ => ev_orV (ev_op (ev_var rfl) ev_c rv_inSign) (fun _ => ev_op (ev_var rfl) ev_c rv_inSign)))) fun H3 e3 => ?_
          have e : nameV (.str z) = (z.cps.toList.map signOk).all id := by
            show nameS z = _
            unfold nameS
            rw [hc]
            rw [Bool.or_eq_false_iff] at hb2
            have a1 : decide (c ∈ lettersS.cps.toList) = true := by simpa using hb2.1
            show (decide (1 ≤ z.length) && decide (z.length ≤ 8) && decide (c ∈ lettersS.cps.toList) && !inV (.str z) reservedV && (c :: r).all signOk) = _
            rw [decide_eq_true hb'.1, decide_eq_true hb'.2, a1, hb2.2, List.all_map]
            rfl
          have q := k H3 ((e1.trans e2).trans e3)
          rw [e] at q
          exact q
    | _ => exact hv.elim
/-! ### integers, operands, seats -/
def intV : V → Bool
  | .int _ => true
  | _ => false
def shortV : V → Bool
  | .int i => decide (-(10 ^ 30) < i) && decide (i < 10 ^ 30)
  | _ => false
def operandV (v : V) : Bool := shortV v || nameV v
def seatsV : V → Bool
  | .int i => decide (1 ≤ i) && decide (i ≤ 4)
  | _ => false
theorem sp_pred {f : V → Bool} {v : V} {H : Hp} (h : OpV v) : SpV (spPred f) [v] H (.bl (f v)) := fun H1 _ Q q E => ⟨v, rfl, h, fun H2 e => q H2 e⟩
theorem scInt : FnScope ["value"] ["value"] (defScope (topS 9)) := ⟨rfl, rfl, rfl, by decide +kernel, rfl, by decide +kernel, by decide +kernel⟩
theorem ok_is_int {f : Addr} {fd : FuncData} (F : Fun K "is_int" "is_int" (topS 9) f fd) (T : BasT K mg) : FnOk P w K mg base CX0 1 f fd ["value"] (spPred intV) := by
  refine F.ok scInt (fun vs H Q E h => ?_) (fun cdv A outer s H vs Q E hr h => ?_)
  · obtain ⟨v, rfl, _⟩ := h
    rfl
  · obtain ⟨v, rfl, hv, k⟩ := h
    refine ⟨_, pss_one (ps_ret (pe_and (pe_callB call_isi (by rfl) T.isinst (by decide +kernel) (pa_cons (pv 0) (pa_cons (pe_bltn (v := .ty "int") (by rfl) T.int (by decide +kernel) rfl) pa_nil)))
      (pe_one (pe_not (pe_callB call_isi (by rfl) T.isinst (by decide +kernel) (pa_cons (pv 0) (pa_cons (pe_bltn (v := .ty "bool") (by rfl) T.bool (by decide +kernel) rfl) pa_nil))))))), ?_⟩
    cases v with
    | int i => exact s_ret (ev_andV (a := true) (b := true) (ev_cb (ea_cons (ev_var rfl) (ea_cons ev_c ea_nil)) (rc_isInt (by decide +kernel)))
        (fun _ => ev_notV (a := false) (ev_cb (ea_cons (ev_var rfl) (ea_cons ev_c ea_nil)) (rc_isInt (by decide +kernel))))) k
    | str z => exact s_ret (ev_andV (a := false) (b := true) (ev_cb (ea_cons (ev_var rfl) (ea_cons ev_c ea_nil)) (rc_isStr (by decide +kernel))) (fun q => nomatch q)) k
    | _ => exact hv.elim
theorem scShort : FnScope ["value"] ["value"] (defScope (topS 10)) := ⟨rfl, rfl, rfl, by decide +kernel, rfl, by decide +kernel, by decide +kernel⟩
theorem ok_is_short {f : Addr} {fd : FuncData} (F : Fun K "is_short" "is_short" (topS 10) f fd) (T : BasT K mg) (GI : CalX P w K mg base CX0 1 "is_int" (spPred intV)) : FnOk P w K mg base CX0 2 f fd ["value"] (spPred shortV) := by
  refine F.ok scShort (fun vs H Q E h => ?_) (fun cdv A outer s H vs Q E hr h => ?_)
  · obtain ⟨v, rfl, _⟩ := h
    rfl
  · obtain ⟨v, rfl, hv, k⟩ := h
    refine ⟨_, pss_one (ps_ret (pe_and (pe_cx (E := fun _ => E0) GI hr (by decide) (by rfl) at0 (pa_cons (pv 0) pa_nil))
      (pe_one (pe_chain op_lt op_lt (pe_un un_neg (C8.pe_gc (by rfl) T.toolong)) (pv 0) (C8.pe_gc (by rfl) T.toolong))))), ?_⟩
    cases v with
    | int i => exact s_ret (ev_andV (a := true) (ev_cx (ea_cons (ev_var rfl) ea_nil) (sp_pred hv)) (fun _ => ev_chain (ev_un ev_c ru_neg) (ev_var rfl) rv_I0 (fun _ => ev_c) (fun _ => rv_I0))) k
    | str z => exact s_ret (ev_andV (a := false) (b := true) (ev_cx (ea_cons (ev_var rfl) ea_nil) (sp_pred hv)) (fun q => nomatch q)) k
    | _ => exact hv.elim
theorem scOperand : FnScope ["part"] ["part"] (defScope (topS 11)) := ⟨rfl, rfl, rfl, by decide +kernel, rfl, by decide +kernel, by decide +kernel⟩
theorem ok_is_operand {f : Addr} {fd : FuncData} (F : Fun K "is_operand" "is_operand" (topS 11) f fd) (GS : CalX P w K mg base CX0 2 "is_short" (spPred shortV)) (GN : CalX P w K mg base CX0 1 "is_name" (spPred nameV)) :
    FnOk P w K mg base CX0 3 f fd ["part"] (spPred operandV) := by
  refine F.ok scOperand (fun vs H Q E h => ?_) (fun cdv A outer s H vs Q E hr h => ?_)
  · obtain ⟨v, rfl, _⟩ := h
    rfl
  · obtain ⟨v, rfl, hv, k⟩ := h
    refine ⟨_, pss_one (ps_ret (pe_or (pe_cx (E := fun _ => E0) GS hr (by decide) (by rfl) at0 (pa_cons (pv 0) pa_nil)) (pe_one (pe_cx (E := fun _ => E0) GN hr (by decide) (by rfl) at0 (pa_cons (pv 0) pa_nil))))), ?_⟩
    exact s_ret (ev_orV (ev_cx (ea_cons (ev_var rfl) ea_nil) (sp_pred hv)) (fun _ => ev_cx (ea_cons (ev_var rfl) ea_nil) (sp_pred hv))) k
theorem scSeats : FnScope ["count"] ["count"] (defScope (topS 12)) := ⟨rfl, rfl, rfl, by decide +kernel, rfl, by decide +kernel, by decide +kernel⟩
theorem ok_is_seats {f : Addr} {fd : FuncData} (F : Fun K "is_seats" "is_seats" (topS 12) f fd) (T : BasT K mg) (GI : CalX P w K mg base CX0 1 "is_int" (spPred intV)) : FnOk P w K mg base CX0 2 f fd ["count"] (spPred seatsV) := by
  refine F.ok scSeats (fun vs H Q E h => ?_) (fun cdv A outer s H vs Q E hr h => ?_)
  · obtain ⟨v, rfl, _⟩ := h
    rfl
  · obtain ⟨v, rfl, hv, k⟩ := h
    refine ⟨_, pss_one (ps_ret (pe_and (pe_cx (E := fun _ => E0) GI hr (by decide) (by rfl) at0 (pa_cons (pv 0) pa_nil))
      (pe_one (pe_chain op_le op_le pe_int (pv 0) (C8.pe_gc (by rfl) T.seats))))), ?_⟩
    cases v with
    | int i => exact s_ret (ev_andV (a := true) (ev_cx (ea_cons (ev_var rfl) ea_nil) (sp_pred hv)) (fun _ => ev_chain ev_c (ev_var rfl) rv_I0 (fun _ => ev_c) (fun _ => rv_I0))) k
    | str z => exact s_ret (ev_andV (a := false) (b := true) (ev_cx (ea_cons (ev_var rfl) ea_nil) (sp_pred hv)) (fun q => nomatch q)) k
    | _ => exact hv.elim
end
end Fs

set_option Elab.async false
set_option linter.all false
set_option maxRecDepth 100000
set_option maxHeartbeats 2000000
namespace Fs
open PySem L2 Evl FsE FsC
structure LawT (K : PySem.W.Frag) (mg : Str → Option Value) : Prop where
  len : mg "len" = none
  int : mg "int" = none
  abs : mg "abs" = none
  range : mg "range" = none
section
variable {P : Program} {w : World} {K : PySem.W.Frag} {mg : Str → Option Value} {base : Heap}
theorem rc_int {K : PySem.W.Frag} {i : Int} {H : Hp} : RC (fun xs H Q => (∃ i, xs = [V.int i] ∧ Q (.int i) H) ∨ ∃ k, xs = [V.bl k] ∧ Q (.int (if k then 1 else 0)) H) [.int i] H (.int i) := fun H1 _ Q q => .inl ⟨i, rfl, q H1 (Ex.refl H1)⟩
/-- _law_cell_at(script, k): some int -/
def spCellAt (K : PySem.W.Frag) : Sp := fun vs H Q _ => ∃ (a : Addr) (ns : List Int) (k : Nat), vs = [.ref a, .int (k : Int)] ∧ SqL K H a (ns.map V.int) ∧ ∀ i : Int, RetV (.int i) H Q
theorem scCellAt : FnScope ["_law_script", "_law_k"] ["_law_script", "_law_k"] (defScope (topS 32)) := ⟨rfl, rfl, rfl, by decide +kernel, rfl, by decide +kernel, by decide +kernel⟩
theorem ok_cell_at {f : Addr} {fd : FuncData} (F : Fun K "_law_cell_at" "_law_cell_at" (topS 32) f fd) (T : LawT K mg) : FnOk P w K mg base CX0 1 f fd ["_law_script", "_law_k"] (spCellAt K) := by
  refine F.ok scCellAt (fun vs H Q E h => ?_) (fun cdv A outer s H vs Q E hr h => ?_)
  · obtain ⟨a, ns, k, rfl, _⟩ := h
    rfl
  · obtain ⟨a, ns, k, rfl, hS, q⟩ := h
    refine ⟨_, pss_cons (ps_if (pt_cmpR op_lt (pv 1) (pe_callB call_len_seq (by rfl) T.len PySem.boot_len (pa_cons (pv 0) pa_nil)) (nomark _)) (pss_one (ps_ret (pe_ix ix_list (pv 0) (pv 1) (fun _ _ => rfl)))) pss_nil) (pss_one (ps_ret pe_int)), ?_⟩
    refine q_when (b := decide ((k : Int) < ((ns.map V.int).length : Nat))) (et_test (ev_op (ev_var rfl) (ev_cb (ea_cons (ev_var rfl) ea_nil) (fun H2 e2 Q' q' => ⟨a, _, rfl, .inl (ex_l e2 hS), q' H2 (Ex.refl H2)⟩)) rv_I0)) (fun hb H1 e1 => ?_) (fun hb H1 e1 => ?_)
    · have hk : k < ns.length := by
        have : (k : Int) < ((ns.map V.int).length : Nat) := by simpa using hb
        rw [List.length_map] at this
        omega
      refine s_ret (v := .int ns[k]) (ev_op (ev_var rfl) (ev_var rfl) (rv_ixL (ex_l e1 hS) (atI_nat (by rw [List.getElem?_map, List.getElem?_eq_getElem hk]; rfl)))) (fun H2 e2 => q _ H2 (e1.trans e2))
    · exact s_ret ev_c (fun H2 e2 => q _ H2 (e1.trans e2))
/-- _law_mixed(cell, k): some int -/
def spMixed : Sp := fun vs H Q _ => ∃ (c : Int) (k : Nat), vs = [.int c, .int (k : Int)] ∧ k ≤ 1000 ∧ ∀ i : Int, RetV (.int i) H Q
theorem scMixed : FnScope ["_law_cell", "_law_k"] ["_law_cell", "_law_k"] (defScope (topS 33)) := ⟨rfl, rfl, rfl, by decide +kernel, rfl, by decide +kernel, by decide +kernel⟩
theorem ok_mixed {f : Addr} {fd : FuncData} (F : Fun K "_law_mixed" "_law_mixed" (topS 33) f fd) (T : LawT K mg) : FnOk P w K mg base CX0 1 f fd ["_law_cell", "_law_k"] spMixed := by
  refine F.ok scMixed (fun vs H Q E h => ?_) (fun cdv A outer s H vs Q E hr h => ?_)
  · obtain ⟨c, k, rfl, _⟩ := h
    rfl
  · obtain ⟨c, k, rfl, hk, q⟩ := h
    refine ⟨_, pss_one (ps_ret (pe_op op_mod (pe_op op_mul (pe_callTy call_int1 (by rfl) T.int (by decide +kernel) (pa_cons (pe_op op_add (pe_op op_mod (pe_op op_pow (pe_op op_add (pe_op op_add (pe_op op_mod (pe_callTy call_int1 (by rfl) T.int (by decide +kernel) (pa_cons (pv 0) pa_nil)) pe_int) (pe_op op_mul pe_int (pv 1))) pe_int) pe_int) pe_int) (pv 1)) pa_nil)) pe_int) pe_int)), ?_⟩
    have h1 := Int.emod_nonneg c (b := 2147483647) (by decide)
    have h2 := Int.emod_lt_of_pos c (b := 2147483647) (by decide)
    refine ⟨.int c, rfl, .inl ⟨c, rfl, c, 2147483647, rfl, rfl, (by decide : (0 : Int) < 2147483647), ?_⟩⟩
    refine ⟨.int (k : Int), rfl, 7919, (k : Int), rfl, rfl, .inl ⟨by decide, by decide⟩, ?_⟩
    refine ⟨c % 2147483647, 7919 * (k : Int), rfl, rfl, c % 2147483647 + 7919 * (k : Int), 104729, rfl, rfl, ?_⟩
    refine ⟨c % 2147483647 + 7919 * (k : Int) + 104729, 5, rfl, rfl, ⟨by decide, by decide, by omega⟩, ?_⟩
    refine ⟨_, 2147483647, rfl, rfl, (by decide : (0 : Int) < 2147483647), ?_⟩
    refine ⟨.int (k : Int), rfl, _, (k : Int), rfl, rfl, .inl ⟨_, rfl, _, 40692, rfl, rfl, .inr ⟨by decide, by decide⟩, ?_⟩⟩
    refine ⟨_, 2147483629, rfl, rfl, (by decide : (0 : Int) < 2147483629), ?_⟩
    exact q _ H (Ex.refl H)
/-- _law_row(cell, many): so many ints from 0 to 999 -/
def RowOk (row : List Int) : Prop := ∀ v ∈ row, 0 ≤ v ∧ v < 1000
def spRow : Sp := fun vs H Q _ => ∃ (c : Int) (n : Nat), vs = [.int c, .int (n : Int)] ∧ n ≤ 500 ∧ ∀ row : List Int, row.length = n → RowOk row → RetL (row.map V.int) H Q
theorem scRow : FnScope ["_law_cell", "_law_many", "_law_row_here", "_law_rest", "_law_k"] ["_law_cell", "_law_many"] (defScope (topS 34)) := ⟨rfl, rfl, rfl, by decide +kernel, rfl, by decide +kernel, by decide +kernel⟩
theorem rowOk_add {row : List Int} {v : Int} (h : RowOk row) (h0 : 0 ≤ v) (h1 : v < 1000) : RowOk (row ++ [v]) := fun x hx => by
  rcases List.mem_append.mp hx with hx | hx
  · exact h x hx
  · rw [List.mem_singleton.mp hx]
    exact ⟨h0, h1⟩
theorem ok_row {f : Addr} {fd : FuncData} (F : Fun K "_law_row" "_law_row" (topS 34) f fd) (T : LawT K mg) (GM : CalX P w K mg base CX0 1 "_law_mixed" spMixed) : FnOk P w K mg base CX0 2 f fd ["_law_cell", "_law_many"] spRow := by
  refine F.ok scRow (fun vs H Q E h => ?_) (fun cdv A outer s H vs Q E hr h => ?_)
  · obtain ⟨c, n, rfl, _⟩ := h
    rfl
  · obtain ⟨c, n, rfl, hn, q⟩ := h
    refine ⟨_, pss_cons (ps_set (i := 2) scRow.nd rfl (Or.inl rfl) (pe_lst pa_nil))
      (pss_cons (ps_set (i := 3) scRow.nd rfl (Or.inl rfl) pe_int)
      (pss_cut (ps_if (pt_cmpR op_ge (pe_callB call_abs (by rfl) T.abs (by decide +kernel) (pa_cons (pv 0) pa_nil)) (pe_op op_pow pe_int pe_int) (nomark _)) (pss_one (ps_set (i := 3) scRow.nd rfl (Or.inl rfl) (pe_callB call_abs (by rfl) T.abs (by decide +kernel) (pa_cons (pv 0) pa_nil)))) pss_nil)
      (pss_cons (ps_for PassesOwn.never rfl (pi_range1 rfl T.range (pa_cons (pv 1) pa_nil)) (pg_name (i := 4) scRow.nd rfl (Or.inl rfl))
        (pss_one (ps_if (pt_cmpR op_gt (pv 3) pe_int (nomark _))
          (pss_cons (ps_expr (pe_bm PySem.F.plainAttrs_list PySem.F.slot_list_append PySem.F.type_list_append mt_append (pv 2) (pa_cons (pe_op op_mod (pe_callTy call_int1 (by rfl) T.int (by decide +kernel) (pa_cons (pv 3) pa_nil)) pe_int) pa_nil)))
            (pss_one (ps_set (i := 3) scRow.nd rfl (Or.inl rfl) (pe_op op_fdiv (pv 3) pe_int))))
          (pss_one (ps_expr (pe_bm PySem.F.plainAttrs_list PySem.F.slot_list_append PySem.F.type_list_append mt_append (pv 2) (pa_cons (pe_op op_mod (pe_callTy call_int1 (by rfl) T.int (by decide +kernel) (pa_cons (pe_cx (E := fun _ => E0) GM hr (by decide) (by rfl) at0 (pa_cons (pv 0) (pa_cons (pv 4) pa_nil))) pa_nil)) pe_int) pa_nil)))))))
      (pss_one (ps_ret (pv 2)))))), ?_⟩
    refine q_asgL (xs := []) (el_lst ea_nil (by decide)) (fun l H1 hl e1 h1 => ?_)
    refine q_asg (v := .int 0) ev_c (fun H2 e2 => ?_)
    refine q_cut (M := fun σ' H' => ∃ r : Int, σ' = [some (.int c), some (.int (n : Int)), some (.ref l), some (.int r), none] ∧ Ex H H' ∧ H' l = some (.lst [])) ?_ (fun σ3 H3 ⟨r, hσ3, e3, h3⟩ => ?_)
    · refine s_when (b := decide ((10 : Int) ^ (18 : Int).toNat ≤ if c < 0 then -c else c)) (et_test (ev_op (ev_cb (ea_cons (ev_var rfl) ea_nil) (fun H4 _ Q' q' => ⟨c, rfl, q' H4 (Ex.refl H4)⟩)) (ev_op ev_c ev_c (rv_I ⟨by decide, by decide, by decide⟩)) rv_I0)) (fun hb H3 e3 => ?_) (fun hb H3 e3 => ?_)
      · exact s_asg (ev_cb (ea_cons (ev_var rfl) ea_nil) (fun H4 _ Q' q' => ⟨c, rfl, q' H4 (Ex.refl H4)⟩)) (fun H4 e4 => ⟨_, rfl, ((e1.trans e2).trans e3).trans e4, (e2.trans (e3.trans e4)) _ _ h1⟩)
      · exact ⟨0, rfl, (e1.trans e2).trans e3, (e2.trans e3) _ _ h1⟩
    · subst hσ3
      refine q_forR1 (n := (n : Int)) (ea_cons (ev_var rfl) ea_nil) (by omega) (fun i σ' H' => ∃ (row : List Int) (rest : Int) (v4 : Option V), σ' = [some (.int c), some (.int (n : Int)), some (.ref l), some (.int rest), v4] ∧ H' l = some (.lst (row.map V.int)) ∧ row.length = i ∧ RowOk row ∧ Ex H H')
        (fun H4 e4 => ⟨[], r, none, rfl, e4 _ _ h3, rfl, (fun v hv => nomatch hv), e3.trans e4⟩) (fun i σ' H' hi ⟨row, rest, v4, hσ, hl', hlen, hrow, he⟩ => ?_) (fun σ' H' ⟨row, rest, v4, hσ, hl', hlen, hrow, he⟩ => ?_)
      · subst hσ
        have hsz : (row.map V.int).length < 100000 := by rw [List.length_map]; omega
        have app : ∀ v : Int, row.map V.int ++ [V.int v] = (row ++ [v]).map V.int := fun v => by rw [List.map_append]; rfl
        refine s_if (b := decide (0 < rest)) (et_test (ev_op (ev_var rfl) ev_c rv_I0)) (fun hb H4 e4 => ?_) (fun hb H4 e4 => ?_)
        · refine q_app (xs := row.map V.int) (v := .int (rest % 1000)) (e4 _ _ hl') (ev_var rfl) (ev_op (x := .int rest) (ev_cb (ea_cons (ev_var rfl) ea_nil) (rc_int (K := K))) ev_c (rv_I (by decide))) hsz (fun H5 e5 => ?_)
          refine s_asg (ev_op (x := .int rest) (ev_var rfl) ev_c (rv_I ⟨by decide, by decide⟩)) (fun H6 e6 => ?_)
          refine ⟨row ++ [rest % 1000], _, _, rfl, e6 _ _ (by rw [← app]; exact upd_same), (by rw [List.length_append, hlen]; rfl), rowOk_add hrow (Int.emod_nonneg _ (by decide)) (Int.emod_lt_of_pos _ (by decide)), (Ex.mut ((he.trans e4).trans e5) hl).trans e6⟩
        · refine ⟨_, rfl, .inl ⟨rfl, _, sq_of (e4 _ _ hl')⟩, _, rfl, _, rfl, c, i, rfl, by omega, fun m H5 e5 => .inl ⟨m, rfl, m, 1000, rfl, rfl, (by decide : (0 : Int) < 1000), l, row.map V.int, .int (m % 1000), rfl, rfl, (e4.trans e5) _ _ hl', sz_lt hsz, ?_⟩⟩
          refine ⟨row ++ [m % 1000], _, _, rfl, (by rw [← app]; exact upd_same), (by rw [List.length_append, hlen]; rfl), rowOk_add hrow (Int.emod_nonneg _ (by decide)) (Int.emod_lt_of_pos _ (by decide)), Ex.mut ((he.trans e4).trans e5) hl⟩
      · subst hσ
        have hn' : row.length = n := by simpa using hlen
        refine s_ret (ev_var rfl) (fun H4 e4 => q row hn' hrow l H4 hl (he.trans e4) (e4 _ _ hl'))
end
end Fs

set_option Elab.async false
set_option linter.all false
set_option maxRecDepth 100000
set_option maxHeartbeats 2000000
namespace Fs
open PySem L2 Evl FsE FsC FsR
/-- the parts of a process, as its tuple holds them -/
def PartsAt (C : Addr) (H : Hp) (ps : List V) : Pr → Prop
  | .choice os => OfsAt C H ps os
  | .new n k r => ∃ b, ps = [.str n, .int k, .ref b] ∧ PrAt C H b r
  | .cond l r y n => ∃ b c, ps = [l.v, r.v, .ref b, .ref c] ∧ PrAt C H b y ∧ PrAt C H c n
  | .call n ops => ∃ u, ps = [.str n, .ref u] ∧ H u = some (.tup (ops.map Opd.v))
theorem PartsAt.ex {C : Addr} {H H' : Hp} {ps : List V} {p : Pr} (e : Ex H H') (h : PartsAt C H ps p) : PartsAt C H' ps p := by
  cases p with
  | choice os => exact OfsAt.ex e h
  | new n k r =>
    obtain ⟨b, h1, h2⟩ := h
    exact ⟨b, h1, h2.ex e⟩
  | cond l r y n =>
    obtain ⟨b, c, h1, h2, h3⟩ := h
    exact ⟨b, c, h1, h2.ex e, h3.ex e⟩
  | call n ops =>
    obtain ⟨u, h1, h2⟩ := h
    exact ⟨u, h1, e _ _ h2⟩
theorem PrAt.mk {C : Addr} {H : Hp} {a t : Addr} {ps : List V} {p : Pr} (h1 : InsAt C H a p.kind t p.depth p.size) (h2 : H t = some (.tup ps)) (h3 : PartsAt C H ps p) : PrAt C H a p := by
  cases p with
  | choice os =>
    unfold PrAt
    unfold Pr.kind Pr.depth Pr.size at h1
    exact ⟨t, ps, h1, h2, h3⟩
  | new n k r =>
    unfold PrAt
    unfold Pr.kind Pr.depth Pr.size at h1
    obtain ⟨b, rfl, h4⟩ := h3
    exact ⟨t, b, h1, h2, h4⟩
  | cond l r y n =>
    unfold PrAt
    unfold Pr.kind Pr.depth Pr.size at h1
    obtain ⟨b, c, rfl, h4, h5⟩ := h3
    exact ⟨t, b, c, h1, h2, h4, h5⟩
  | call n ops =>
    unfold PrAt
    unfold Pr.kind Pr.depth Pr.size at h1
    obtain ⟨u, rfl, h4⟩ := h3
    exact ⟨t, u, h1, h2, h4⟩
theorem PrAt.out {C : Addr} {H : Hp} {a : Addr} {p : Pr} (h : PrAt C H a p) : ∃ t ps, InsAt C H a p.kind t p.depth p.size ∧ H t = some (.tup ps) ∧ PartsAt C H ps p := by
  cases p with
  | choice os =>
    unfold PrAt at h
    obtain ⟨t, ps, h1, h2, h3⟩ := h
    exact ⟨t, ps, by unfold Pr.kind Pr.depth Pr.size; exact h1, h2, h3⟩
  | new n k r =>
    unfold PrAt at h
    obtain ⟨t, b, h1, h2, h3⟩ := h
    exact ⟨t, _, by unfold Pr.kind Pr.depth Pr.size; exact h1, h2, b, rfl, h3⟩
  | cond l r y n =>
    unfold PrAt at h
    obtain ⟨t, b, c, h1, h2, h3, h4⟩ := h
    exact ⟨t, _, by unfold Pr.kind Pr.depth Pr.size; exact h1, h2, b, c, rfl, h3, h4⟩
  | call n ops =>
    unfold PrAt at h
    obtain ⟨t, u, h1, h2, h3⟩ := h
    exact ⟨t, _, by unfold Pr.kind Pr.depth Pr.size; exact h1, h2, u, rfl, h3⟩
/-! ### what is contained directly -/
def Ofs.rests : Ofs → List Pr
  | .nil => []
  | .cons _ _ _ _ _ r os => r :: os.rests
def Pr.inner : Pr → List Pr
  | .choice os => os.rests
  | .new _ _ r => [r]
  | .cond _ _ y n => [y, n]
  | .call _ _ => []
/-- a list of processes, by their addresses -/
def InnAt (C : Addr) (H : Hp) : List V → List Pr → Prop
  | [], [] => True
  | x :: xs, p :: ps => (∃ a, x = .ref a ∧ PrAt C H a p) ∧ InnAt C H xs ps
  | _, _ => False
theorem InnAt.ex {C : Addr} {H H' : Hp} (e : Ex H H') : ∀ {xs : List V} {ps : List Pr}, InnAt C H xs ps → InnAt C H' xs ps
  | [], [], _ => True.intro
  | x :: xs, p :: ps, ⟨⟨a, h1, h2⟩, h3⟩ => ⟨⟨a, h1, h2.ex e⟩, InnAt.ex e h3⟩
  | [], _ :: _, h => h.elim
  | _ :: _, [], h => h.elim
theorem InnAt.get {C : Addr} {H : Hp} : ∀ {xs : List V} {ps : List Pr} {x : V}, InnAt C H xs ps → x ∈ xs → ∃ a p, x = .ref a ∧ PrAt C H a p ∧ p ∈ ps
  | [], _, _, _, hx => nomatch hx
  | y :: xs, [], _, h, _ => h.elim
  | y :: xs, p :: ps, x, ⟨⟨a, h1, h2⟩, h3⟩, hx => by
    rcases List.mem_cons.mp hx with rfl | hx
    · exact ⟨a, p, h1, h2, List.mem_cons_self⟩
    · obtain ⟨b, q, k1, k2, k3⟩ := InnAt.get h3 hx
      exact ⟨b, q, k1, k2, List.mem_cons_of_mem _ k3⟩
theorem InnAt.length {C : Addr} {H : Hp} : ∀ {xs : List V} {ps : List Pr}, InnAt C H xs ps → xs.length = ps.length
  | [], [], _ => rfl
  | x :: xs, p :: ps, ⟨_, h⟩ => congrArg (· + 1) (InnAt.length h)
  | [], _ :: _, h => h.elim
  | _ :: _, [], h => h.elim
theorem Ofs.rests_len : ∀ os : Ofs, os.rests.length = os.len
  | .nil => rfl
  | .cons _ _ _ _ _ r os => congrArg (· + 1) (Ofs.rests_len os)
/-- the greatest depth, the sum of the sizes -/
theorem Ofs.sum_eq : ∀ os : Ofs, os.sum = (os.rests.map Pr.size).sum
  | .nil => rfl
  | .cons _ _ _ _ _ r os => by
    unfold Ofs.sum Ofs.rests
    rw [List.map_cons, List.sum_cons, Ofs.sum_eq os]
mutual
theorem Pr.depth_pos : ∀ p : Pr, 1 ≤ p.depth
  | .choice os => by
    unfold Pr.depth
    have := Ofs.depth_nn os
    omega
  | .new _ _ r => by
    unfold Pr.depth
    have := Pr.depth_pos r
    omega
  | .cond _ _ y n => by
    unfold Pr.depth
    have := Pr.depth_pos y
    have := Pr.depth_pos n
    omega
  | .call _ _ => by
    unfold Pr.depth
    omega
theorem Ofs.depth_nn : ∀ os : Ofs, 0 ≤ os.depth
  | .nil => by
    unfold Ofs.depth
    omega
  | .cons _ _ _ _ _ r os => by
    unfold Ofs.depth
    have := Pr.depth_pos r
    omega
end
theorem maxFrom_ge : ∀ (ys : List Int) (y : Int), maxFrom y ys = max y (maxFrom 0 ys) ∨ (y < 0)
  | [], y => by
    unfold maxFrom
    simp only [List.foldl_nil]
    omega
  | z :: zs, y => by
    have h1 := maxFrom_ge zs (max y z)
    have h2 := maxFrom_ge zs (max 0 z)
    unfold maxFrom at *
    simp only [List.foldl_cons]
    omega
theorem Ofs.depth_eq : ∀ os : Ofs, maxDef 0 (os.rests.map Pr.depth) = os.depth
  | .nil => rfl
  | .cons _ _ _ _ _ r os => by
    unfold Ofs.rests Ofs.depth
    rw [List.map_cons]
    show maxFrom r.depth (os.rests.map Pr.depth) = max r.depth os.depth
    have ih := Ofs.depth_eq os
    have hr := Pr.depth_pos r
    cases hr2 : os.rests.map Pr.depth with
    | nil =>
      rw [hr2] at ih
      have e0 : (0 : Int) = os.depth := ih
      unfold maxFrom
      simp only [List.foldl_nil]
      omega
    | cons y ys =>
      rw [hr2] at ih
      have e0 : maxFrom y ys = os.depth := ih
      have hy : 1 ≤ y := by
        have : y ∈ os.rests.map Pr.depth := by rw [hr2]; exact List.mem_cons_self
        obtain ⟨q, _, rfl⟩ := List.mem_map.mp this
        exact Pr.depth_pos q
      have h1 := maxFrom_ge ys y
      have h2 := maxFrom_ge ys (max r.depth y)
      show maxFrom (max r.depth y) ys = _
      omega
theorem Pr.depth_eq (p : Pr) : 1 + maxDef 0 (p.inner.map Pr.depth) = p.depth := by
  cases p with
  | choice os =>
    unfold Pr.inner Pr.depth
    rw [Ofs.depth_eq]
  | new n k r =>
    unfold Pr.depth
    rfl
  | cond l r y n =>
    unfold Pr.depth
    rfl
  | call n ops =>
    unfold Pr.depth
    rfl
def Pr.own : Pr → Int
  | .choice os => max 1 (os.len : Int)
  | _ => 1
theorem Pr.size_eq (p : Pr) : p.own + (p.inner.map Pr.size).sum = p.size := by
  cases p with
  | choice os =>
    unfold Pr.inner Pr.size Pr.own
    rw [Ofs.sum_eq]
  | new n k r =>
    unfold Pr.size Pr.own Pr.inner
    simp
  | cond l r y n =>
    unfold Pr.size Pr.own Pr.inner
    simp
  | call n ops =>
    unfold Pr.size Pr.own Pr.inner
    simp
theorem OfsAt.len {C : Addr} {H : Hp} : ∀ {os : Ofs} {ps : List V}, OfsAt C H ps os → ps.length = os.len
  | .nil, ps, h => by
    unfold OfsAt at h
    rw [h]
    rfl
  | .cons c s m op ns r os, ps, h => by
    unfold OfsAt at h
    obtain ⟨o, u, b, qs, h1, _, _, _, h5⟩ := h
    rw [h1]
    exact congrArg (· + 1) (OfsAt.len h5)
/-- the rests of the offers -/
theorem OfsAt.rests {C : Addr} {H : Hp} : ∀ {os : Ofs} {ps : List V}, OfsAt C H ps os → ∃ rs : List V, rs.length = ps.length ∧ InnAt C H rs os.rests ∧
    ∀ (i : Nat) (x : V), ps[i]? = some x → ∃ (o : Addr) (c : Str) (s m : Int) (op : Opd) (u : Addr) (y : V), x = .ref o ∧ rs[i]? = some y ∧ H o = some (.tup [.str c, .int s, .int m, op.v, .ref u, y])
  | .nil, ps, h => by
    unfold OfsAt at h
    subst h
    exact ⟨[], rfl, True.intro, fun i x hx => by simp at hx⟩
  | .cons c s m op ns r os, ps, h => by
    unfold OfsAt at h
    obtain ⟨o, u, b, qs, rfl, h2, h3, h4, h5⟩ := h
    obtain ⟨rs, k1, k2, k3⟩ := OfsAt.rests h5
    refine ⟨.ref b :: rs, congrArg (· + 1) k1, ⟨⟨b, rfl, h4⟩, k2⟩, fun i x hx => ?_⟩
    cases i with
    | zero =>
      have e : V.ref o = x := by simpa using hx
      subst e
      exact ⟨o, c, s, m, op, u, .ref b, rfl, rfl, h2⟩
    | succ i =>
      obtain ⟨o', c', s', m', op', u', y', z1, z2, z3⟩ := k3 i x (by simpa using hx)
      exact ⟨o', c', s', m', op', u', y', z1, by simpa using z2, z3⟩
/-- rs: what a process with these parts contains directly -/
def InnOf (C : Addr) (H : Hp) (ps rs : List V) : Pr → Prop
  | .choice os => rs.length = ps.length ∧ InnAt C H rs os.rests ∧
    ∀ (i : Nat) (x : V), ps[i]? = some x → ∃ (o : Addr) (c : Str) (s m : Int) (op : Opd) (u : Addr) (y : V), x = .ref o ∧ rs[i]? = some y ∧ H o = some (.tup [.str c, .int s, .int m, op.v, .ref u, y])
  | .new n k r => ∃ b, ps = [.str n, .int k, .ref b] ∧ rs = [.ref b] ∧ PrAt C H b r
  | .cond l r y n => ∃ b c, ps = [l.v, r.v, .ref b, .ref c] ∧ rs = [.ref b, .ref c] ∧ PrAt C H b y ∧ PrAt C H c n
  | .call n ops => ∃ u, ps = [.str n, .ref u] ∧ rs = [] ∧ H u = some (.tup (ops.map Opd.v))
theorem InnOf.ex {C : Addr} {H H' : Hp} {ps rs : List V} {p : Pr} (e : Ex H H') (h : InnOf C H ps rs p) : InnOf C H' ps rs p := by
  cases p with
  | choice os =>
    obtain ⟨h1, h2, h3⟩ := h
    refine ⟨h1, h2.ex e, fun i x hx => ?_⟩
    obtain ⟨o, c, s, m, op, u, y, z1, z2, z3⟩ := h3 i x hx
    exact ⟨o, c, s, m, op, u, y, z1, z2, e _ _ z3⟩
  | new n k r =>
    obtain ⟨b, h1, h2, h3⟩ := h
    exact ⟨b, h1, h2, h3.ex e⟩
  | cond l r y n =>
    obtain ⟨b, c, h1, h2, h3, h4⟩ := h
    exact ⟨b, c, h1, h2, h3.ex e, h4.ex e⟩
  | call n ops =>
    obtain ⟨u, h1, h2, h3⟩ := h
    exact ⟨u, h1, h2, e _ _ h3⟩
theorem PartsAt.inn {C : Addr} {H : Hp} {ps : List V} {p : Pr} (h : PartsAt C H ps p) : ∃ rs, InnOf C H ps rs p := by
  cases p with
  | choice os =>
    obtain ⟨rs, h1, h2, h3⟩ := OfsAt.rests h
    exact ⟨rs, h1, h2, h3⟩
  | new n k r =>
    obtain ⟨b, h1, h2⟩ := h
    exact ⟨[.ref b], b, h1, rfl, h2⟩
  | cond l r y n =>
    obtain ⟨b, c, h1, h2, h3⟩ := h
    exact ⟨[.ref b, .ref c], b, c, h1, rfl, h2, h3⟩
  | call n ops =>
    obtain ⟨u, h1, h2⟩ := h
    exact ⟨[], u, h1, rfl, h2⟩
theorem InnOf.at {C : Addr} {H : Hp} {ps rs : List V} {p : Pr} (h : InnOf C H ps rs p) : InnAt C H rs p.inner := by
  cases p with
  | choice os => exact h.2.1
  | new n k r =>
    obtain ⟨b, _, rfl, h3⟩ := h
    exact ⟨⟨b, rfl, h3⟩, True.intro⟩
  | cond l r y n =>
    obtain ⟨b, c, _, rfl, h3, h4⟩ := h
    exact ⟨⟨b, rfl, h3⟩, ⟨c, rfl, h4⟩, True.intro⟩
  | call n ops =>
    obtain ⟨u, _, rfl, _⟩ := h
    exact True.intro
theorem InnAt.at_ {C : Addr} {H : Hp} : ∀ {xs : List V} {ps : List Pr} {i : Nat} {x : V}, InnAt C H xs ps → xs[i]? = some x → ∃ a p, x = .ref a ∧ PrAt C H a p ∧ ps[i]? = some p
  | [], _, _, _, _, hx => by simp at hx
  | y :: xs, [], _, _, h, _ => h.elim
  | y :: xs, p :: ps, 0, x, ⟨⟨a, h1, h2⟩, h3⟩, hx => by
    have e : y = x := by simpa using hx
    subst e
    exact ⟨a, p, h1, h2, rfl⟩
  | y :: xs, p :: ps, i + 1, x, ⟨_, h3⟩, hx => by
    obtain ⟨b, q, k1, k2, k3⟩ := InnAt.at_ (i := i) h3 (by simpa using hx)
    exact ⟨b, q, k1, k2, by simpa using k3⟩
end Fs

set_option Elab.async false
set_option linter.all false
set_option maxRecDepth 100000
set_option maxHeartbeats 2000000
namespace Fs
open PySem L2 Evl FsE FsC FsR
/-! ### what raises: an own error of one argument -/
/-- X(e) made, to be raised: its own dict d, new, holds the argument under f -/
def tMkE (C : Addr) (f : Str) (ta : TA) : L2.St → Hp → XK → Prop := fun σ H Q => ta σ H fun vs H1 => ∃ z : Str, vs = [.str z] ∧ z.length ≤ 1000 ∧ ∀ d, H1 d = none → Q (.ref C) (some d) (upd H1 d (.xd [(f, .str z)]))
/-- the class x at C makes such errors -/
def RaisesX (P : Program) (w : World) (K : PySem.W.Frag) (mg : Str → Option Value) (base : Heap) (x : Str) (C : Addr) (f : Str) (k : Nat) : Prop :=
  ∀ (X : Cx), X.prog = P → X.w = w → X.K = K → X.mg = mg → X.base = base → Room k X.A → ∀ (a : Expr) (ta : TA) (p pos : Pos), PA X [a] ta → Gl X x → starEach (a :: []) X.env = (false, eval a X.env) :: starEach [] X.env → (backTo pos (starEach [] X.env)).any (·.1) = false →
    PMk X (.Call (.Name x p) [a] [] pos) (tMkE C f ta)
/-- what the text has told of the terms' module -/
structure TerT (K : PySem.W.Frag) (mg : Str → Option Value) (C CB : Addr) : Prop where
  cl : Cls K C
  nK : NoAttr K C "kind"
  nP : NoAttr K C "parts"
  nD : NoAttr K C "depth"
  nS : NoAttr K C "size"
  mgC : mg "Process" = some (.ref C)
  kStr : PySem.W.kitOne K (.type "str") (.ref C) = some false
  kInt : PySem.W.kitOne K (.type "int") (.ref C) = some false
  kTup : PySem.W.kitOne K (.type "tuple") (.ref C) = some false
  ha : PySem.W.findIn K (.ref C) "__class__" = some (some (.builtin "object.__class__"))
  hn : PySem.W.specialIn K (.builtin "object.__class__") "__get__" = some (some (.builtin "getset_descriptor.__get__"))
  htk : PySem.W.takesIn K (.builtin "object.__class__") = some true
  hm : PySem.W.mroIn K C (.type "object") = some true
  sum : mg "sum" = none
  max : mg "max" = none
  tuple : mg "tuple" = none
  depth : GC mg "MOST_DEPTH" (.int 20)
  size : GC mg "MOST_SIZE" (.int 400)
theorem kOwn {K : PySem.W.Frag} {C : Addr} : PySem.W.kitOne K (.ref C) (.ref C) = some true := by
  unfold PySem.W.kitOne
  rw [if_pos (beq_self_eq_true _)]
/-- what is raised: the field f -/
def Bad (CB : Addr) (f : Str) (H : Hp) (E : XK) : Prop := ∀ (d : Addr) (H' : Hp), Ex H H' → H d = none → H' d = some (.xd [("field", .str f)]) → E (.ref CB) (some d) H'
theorem Bad.ex {CB : Addr} {f : Str} {H H' : Hp} {E : XK} (e : Ex H H') (h : Bad CB f H E) : Bad CB f H' E := fun d H2 e2 hd h2 => h d H2 (e.trans e2) (fresh_back e hd) h2
/-- demand(allowed, field) -/
def spDemand (CB : Addr) : Sp := fun vs H Q E => ∃ (b : Bool) (f : Str), vs = [.bl b, .str f] ∧ f.length ≤ 1000 ∧ (b = true → RetV .non H Q) ∧ (b = false → Bad CB f H E)
section
variable {P : Program} {w : World} {K : PySem.W.Frag} {mg : Str → Option Value} {base : Heap} {C CB : Addr}
theorem scDemand : FnScope ["allowed", "field"] ["allowed", "field"] (defScope (topS 22)) := ⟨rfl, rfl, rfl, by decide +kernel, rfl, by decide +kernel, by decide +kernel⟩
theorem ok_demand {f : Addr} {fd : FuncData} {k : Nat} (F : Fun K "demand" "demand" (topS 22) f fd) (R : RaisesX P w K mg base "BadTerm" CB "field" k) : FnOk P w K mg base (L2.CX P w) (k + 1) f fd ["allowed", "field"] (spDemand CB) := by
  refine F.okX scDemand (fun vs H Q E h => ?_) (fun cdv A outer s H vs Q E hr h => ?_)
  · obtain ⟨b, z, rfl, _⟩ := h
    rfl
  · obtain ⟨b, z, rfl, hz, k1, k2⟩ := h
    refine ⟨_, pss_one (ps_if (pt_not (pt_val (pv 0))) (pss_one (ps_raise (W := fun cls d _ H => E cls d H) rfl (takes_of rfl rfl rfl rfl) (R _ rfl rfl rfl rfl rfl hr _ _ _ _ (pa_cons (pv 1) pa_nil) (by rfl) (by rfl) (by rfl)))) pss_nil), ?_⟩
    refine s_if (et_not (et_B (ev_var rfl))) (fun hb H1 e1 => ?_) (fun hb H1 e1 => ?_)
    · have hb' : b = false := by simpa using hb
      refine ⟨_, rfl, z, rfl, hz, fun d hd => ?_⟩
      exact k2 hb' d _ (e1.trans (Ex.new hd)) (fresh_back e1 hd) upd_same
    · have hb' : b = true := by simpa using hb
      exact k1 hb' H1 e1
/-- demand(e, 'f') as a statement, what follows behind it -/
theorem q_demand {σ : L2.St} {H : Hp} {te : TE} {f : Str} {b : Bool} {E : L2.St → XK} {tz : TS} {D : Ends} (hf : f.length ≤ 1000) (h : Ev te σ H (.bl b)) (k1 : b = true → ∀ H1, Ex H H1 → tz D σ H1) (k2 : b = false → Bad CB f H (E σ)) :
    tSeq (tDrop (tCallS (spDemand CB) E (tCons te (tCons (tC (.str f)) tNil)))) tz D σ H :=
  h H (Ex.refl H) _ fun H1 e1 => ⟨b, f, rfl, hf, fun hb H2 e2 => k1 hb H2 (e1.trans e2), fun hb => (k2 hb).ex e1⟩
theorem s_demand {σ : L2.St} {H : Hp} {te : TE} {f : Str} {b : Bool} {E : L2.St → XK} {D : Ends} (hf : f.length ≤ 1000) (h : Ev te σ H (.bl b)) (k1 : b = true → ∀ H1, Ex H H1 → D.nx σ H1) (k2 : b = false → Bad CB f H (E σ)) :
    tDrop (tCallS (spDemand CB) E (tCons te (tCons (tC (.str f)) tNil))) D σ H :=
  h H (Ex.refl H) _ fun H1 e1 => ⟨b, f, rfl, hf, fun hb H2 e2 => k1 hb H2 (e1.trans e2), fun hb => (k2 hb).ex e1⟩
/-! ### what a process contains -/
theorem kNew : decide (V.str "new" = V.str "choice") = false := by decide +kernel
theorem kIf : decide (V.str "if" = V.str "choice") = false := by decide +kernel
theorem kCall : decide (V.str "call" = V.str "choice") = false := by decide +kernel
def spInner (C : Addr) : Sp := fun vs H Q _ => ∃ (p : Pr) (t : Addr) (ps rs : List V), vs = [.str p.kind, .ref t] ∧ H t = some (.tup ps) ∧ ps.length ≤ 100 ∧ InnOf C H ps rs p ∧ RetL rs H Q
theorem sp_inner {p : Pr} {t : Addr} {ps rs : List V} {H : Hp} (h1 : H t = some (.tup ps)) (h2 : ps.length ≤ 100) (h3 : InnOf C H ps rs p) : SpL (spInner C) [.str p.kind, .ref t] H rs := fun H1 e Q q E =>
  ⟨p, t, ps, rs, rfl, e _ _ h1, h2, h3.ex e, q⟩
theorem scInner : FnScope ["kind", "parts", "offer", "part"] ["kind", "parts"] (defScope (topS 23)) := ⟨rfl, rfl, rfl, by decide +kernel, rfl, by decide +kernel, by decide +kernel⟩
theorem tyx_pr (T : TerT K mg C CB) {H : Hp} {a : Addr} {p : Pr} (h : PrAt C H a p) : ∀ H1, Ex H H1 → TyX K H1 (.ref a) (.ref C) := fun H1 e => by
  obtain ⟨t, ps, ⟨dx, h1⟩, _⟩ := h.out
  exact .base (.ins (e _ _ h1) T.cl T.ha T.hn T.htk T.hm)
theorem tyx_opd (T : TerT K mg C CB) {H : Hp} (o : Opd) : ∃ t, (∀ H1, Ex H H1 → TyX K H1 o.v t) ∧ PySem.W.kitOne K t (.ref C) = some false := by
  cases o with
  | int i => exact ⟨_, fun _ _ => .base (.int i), T.kInt⟩
  | nm z => exact ⟨_, fun _ _ => .base (.str z), T.kStr⟩
theorem et_isPr {σ : L2.St} {H : Hp} {i : Nat} {x : V} {t : Value} {b : Bool} (hx : σ[i]? = some (some x)) (ht : ∀ H1, Ex H H1 → TyX K H1 x t) (hk : PySem.W.kitOne K t (.ref C) = some b) :
    EvT (L2.tB (tCB (rIsi K) (tCons (tVar i) (tCons (tC (.ref C)) tNil)))) σ H b := et_B (ev_cb (ea_cons (ev_var hx) (ea_cons ev_c ea_nil)) (rc_isiOwn ht hk))
theorem ok_inner {f : Addr} {fd : FuncData} (F : Fun K "inner_processes" "inner_processes" (topS 23) f fd) (B : BasT K mg) (T : TerT K mg C CB) : FnOk P w K mg base CX0 1 f fd ["kind", "parts"] (spInner C) := by
  refine F.ok scInner (fun vs H Q E h => ?_) (fun cdv A outer s H vs Q E hr h => ?_)
  · obtain ⟨p, t, ps, rs, rfl, _⟩ := h
    rfl
  · obtain ⟨p, t, ps, rs, rfl, ht, hl, hI, k⟩ := h
    refine ⟨_, pss_cons (ps_if (pt_cmpR op_eq (pv 0) pe_str (nomark _)) (pss_one (ps_ret (pe_lc (own := [("offer", 2)]) (g := gName 2) (tt := tYes) rfl scInner.nd (pi_tup (pv 1)) (blkOk_by (own := [("offer", 2)]) (N := ["kind", "parts", "offer", "part"]) (sc := defScope (topS 23)) (by decide +kernel))
          (fun _ _ _ _ _ => pg_name (i := 2) scInner.nd rfl (Or.inl rfl)) (fun _ _ _ _ _ => pts_nil) (fun _ _ _ _ _ => pe_ix (r := rIxT K) ix_tup (pv 2) (pe_un un_neg pe_int) (fun _ _ => rfl))))) pss_nil)
      (pss_one (ps_ret (pe_lc (own := [("part", 3)]) (g := gName 3) (tt := L2.tB (tCB (rIsi K) (tCons (tVar 3) (tCons (tC (.ref C)) tNil)))) rfl scInner.nd (pi_tup (pv 1)) (blkOk_by (own := [("part", 3)]) (N := ["kind", "parts", "offer", "part"]) (sc := defScope (topS 23)) (by decide +kernel))
          (fun _ _ _ _ _ => pg_name (i := 3) scInner.nd rfl (Or.inl rfl)) (fun _ _ _ _ _ => pts_one (pt_val (pe_callB (id := "isinstance") (r := rIsi K) call_isi (by rfl) B.isinst (by decide +kernel) (pa_cons (pv 3) (pa_cons (pe_glob (v := .ref C) (by rfl) T.mgC rfl) pa_nil))))) (fun _ _ _ _ _ => pv 3)))), ?_⟩
    cases p with
    | choice os =>
      refine q_if (b := true) (et_test (ev_op (ev_var rfl) ev_c (rv_eq rfl))) (fun _ H1 e1 => ?_) (fun q => nomatch q)
      obtain ⟨h1, h2, h3⟩ := hI.ex e1
      refine s_retL (el_lcTy (ev_var rfl) (st_of (e1 _ _ ht)) (by omega) (fun _ => rfl) h1 (fun i x y H2 e2 hx hy => ?_)) (fun q H2 hq e2 h2 => k q H2 (fresh_back e1 hq) (e1.trans e2) h2)
      obtain ⟨o, c, s, m, op, u, y', rfl, z2, z3⟩ := h3 i x hx
      have e : y' = y := by
        rw [hy] at z2
        exact (Option.some.inj z2).symm
      subst e
      exact ev_op (ev_var rfl) (ev_un ev_c ru_neg) (rv_ixT (st_of (e2 _ _ z3)) rfl)
    | new n kk r =>
      refine q_if (b := false) (et_is (et_test (ev_op (ev_var rfl) ev_c (rv_eq rfl))) kNew) (fun q => nomatch q) (fun _ H1 e1 => ?_)
      obtain ⟨b, rfl, rfl, hb⟩ := hI.ex e1
      refine s_retL (xs := [.ref b]) (el_lcT (fun i => decide (i = 2)) (fun i => .ref b) (ev_var rfl) (st_of (e1 _ _ ht)) (by show 3 ≤ 40000; decide) (fun _ => rfl) (fun i x H2 e2 hx => ?_) (fun i x H2 e2 hx hi => ?_)) (fun q H2 hq e2 h2 => k q H2 (fresh_back e1 hq) (e1.trans e2) h2)
      · match i, hx with
        | 0, hx => cases hx; exact et_isPr rfl (fun _ _ => .base (.str n)) T.kStr
        | 1, hx => cases hx; exact et_isPr rfl (fun _ _ => .base (.int kk)) T.kInt
        | 2, hx => cases hx; exact et_isPr rfl (tyx_pr T (hb.ex e2)) kOwn
      · match i, hx, hi with
        | 2, hx, _ => cases hx; exact ev_var rfl
    | cond l r y n =>
      refine q_if (b := false) (et_is (et_test (ev_op (ev_var rfl) ev_c (rv_eq rfl))) kIf) (fun q => nomatch q) (fun _ H1 e1 => ?_)
      obtain ⟨b, c, rfl, rfl, hb, hc⟩ := hI.ex e1
      refine s_retL (xs := [.ref b, .ref c]) (el_lcT (fun i => decide (2 ≤ i)) (fun i => if i = 2 then .ref b else .ref c) (ev_var rfl) (st_of (e1 _ _ ht)) (by show 4 ≤ 40000; decide) (fun _ => rfl) (fun i x H2 e2 hx => ?_) (fun i x H2 e2 hx hi => ?_)) (fun q H2 hq e2 h2 => k q H2 (fresh_back e1 hq) (e1.trans e2) h2)
      · match i, hx with
        | 0, hx => cases hx; obtain ⟨t, h1, h2⟩ := tyx_opd T l; exact et_isPr rfl h1 h2
        | 1, hx => cases hx; obtain ⟨t, h1, h2⟩ := tyx_opd T r; exact et_isPr rfl h1 h2
        | 2, hx => cases hx; exact et_isPr rfl (tyx_pr T (hb.ex e2)) kOwn
        | 3, hx => cases hx; exact et_isPr rfl (tyx_pr T (hc.ex e2)) kOwn
      · match i, hx, hi with
        | 2, hx, _ => cases hx; exact ev_var rfl
        | 3, hx, _ => cases hx; exact ev_var rfl
    | call n ops =>
      refine q_if (b := false) (et_is (et_test (ev_op (ev_var rfl) ev_c (rv_eq rfl))) kCall) (fun q => nomatch q) (fun _ H1 e1 => ?_)
      obtain ⟨u, rfl, rfl, hu⟩ := hI.ex e1
      refine s_retL (xs := []) (el_lcT (fun i => false) (fun i => .non) (ev_var rfl) (st_of (e1 _ _ ht)) (by show 2 ≤ 40000; decide) (fun _ => rfl) (fun i x H2 e2 hx => ?_) (fun i x H2 e2 hx hi => nomatch hi)) (fun q H2 hq e2 h2 => k q H2 (fresh_back e1 hq) (e1.trans e2) h2)
      match i, hx with
      | 0, hx => cases hx; exact et_isPr rfl (fun _ _ => .base (.str n)) T.kStr
      | 1, hx => cases hx; exact et_isPr rfl (fun H3 e3 => .base (.tup (e3 _ _ (e2 _ _ hu)))) T.kTup
end
end Fs

set_option Elab.async false
set_option linter.all false
set_option maxRecDepth 100000
set_option maxHeartbeats 2000000
namespace Fs
open PySem L2 Evl FsE FsC FsR
def spSize (C : Addr) (f : Pr → Int) : Sp := fun vs H Q _ => ∃ (p : Pr) (t : Addr) (ps : List V), vs = [.str p.kind, .ref t] ∧ H t = some (.tup ps) ∧ ps.length ≤ 100 ∧ PartsAt C H ps p ∧ RetV (.int (f p)) H Q
theorem sp_size {C : Addr} {f : Pr → Int} {p : Pr} {t : Addr} {ps : List V} {H : Hp} (h1 : H t = some (.tup ps)) (h2 : ps.length ≤ 100) (h3 : PartsAt C H ps p) : SpV (spSize C f) [.str p.kind, .ref t] H (.int (f p)) := fun H1 e Q q E =>
  ⟨p, t, ps, rfl, e _ _ h1, h2, h3.ex e, q⟩
theorem hu2_of {A : Around} {k : Nat} (hr : Room k A) : A.units + 1 + 1 < cLine := Nat.lt_of_le_of_lt (by omega : A.units + 1 + 1 ≤ A.units + 64) hr.units
theorem kCh : decide (V.str "choice" = V.str "choice") = true := by decide +kernel
section
variable {P : Program} {w : World} {K : PySem.W.Frag} {mg : Str → Option Value} {base : Heap} {C CB : Addr}
theorem InnOf.short {H : Hp} {ps rs : List V} {p : Pr} (h : InnOf C H ps rs p) (hl : ps.length ≤ 100) : rs.length ≤ 100 := by
  cases p with
  | choice os =>
    have := h.1
    omega
  | new n k r =>
    obtain ⟨b, _, rfl, _⟩ := h
    show 1 ≤ 100
    decide
  | cond l r y n =>
    obtain ⟨b, c, _, rfl, _⟩ := h
    show 2 ≤ 100
    decide
  | call n ops =>
    obtain ⟨u, _, rfl, _⟩ := h
    show 0 ≤ 100
    decide
/-- [process.f for process in (the list)] -/
theorem el_flds {σ : L2.St} {H : Hp} {tl : TE} {j : Nat} {vs : List Nat} {rs : List V} {ps : List Pr} {f : Str} {g : Pr → Int} (hf : ∀ {H : Hp} {a : Addr} {p : Pr}, PrAt C H a p → ∃ dx fs, H a = some (.ins C dx fs) ∧ fs.lookup f = some (.int (g p)))
    (cl : Cls K C) (n : NoAttr K C f) (h : EvL tl σ H rs) (hl : rs.length ≤ 100) (hi : InnAt C H rs ps) (hw : ∀ x, wipe ((wipe σ vs).set j (some x)) vs = wipe σ vs) (hj : ∀ x, ((wipe σ vs).set j (some x))[j]? = some (some x)) :
    EvL (tLc (iList K tl) (gName j) tYes (tFld K (tVar j) f) vs) σ H ((ps.map g).map V.int) := by
  refine el_lcNLy h (by omega) hw (by rw [List.length_map, List.length_map, hi.length]) (fun i x y H1 e hx hy => ?_)
  obtain ⟨a, p, rfl, hp, hps⟩ := InnAt.at_ (hi.ex e) hx
  obtain ⟨dx, fs, h1, h2⟩ := hf hp
  have ey : y = .int (g p) := by
    rw [List.getElem?_map, List.getElem?_map, hps] at hy
    exact (Option.some.inj hy).symm
  subst ey
  exact ev_fld (ev_var (hj _)) h1 cl n h2
theorem fld_depth {H : Hp} {a : Addr} {p : Pr} (h : PrAt C H a p) : ∃ dx fs, H a = some (.ins C dx fs) ∧ fs.lookup ("depth" : Str) = some (.int p.depth) := by
  obtain ⟨t, ps, ⟨dx, h1⟩, _⟩ := h.out
  exact ⟨dx, _, h1, pf_depth⟩
theorem fld_size {H : Hp} {a : Addr} {p : Pr} (h : PrAt C H a p) : ∃ dx fs, H a = some (.ins C dx fs) ∧ fs.lookup ("size" : Str) = some (.int p.size) := by
  obtain ⟨t, ps, ⟨dx, h1⟩, _⟩ := h.out
  exact ⟨dx, _, h1, pf_size⟩
theorem scDepth : FnScope ["kind", "parts", "process"] ["kind", "parts"] (defScope (topS 25)) := ⟨rfl, rfl, rfl, by decide +kernel, rfl, by decide +kernel, by decide +kernel⟩
theorem ok_depth {f : Addr} {fd : FuncData} (F : Fun K "depth_of" "depth_of" (topS 25) f fd) (T : TerT K mg C CB) (GI : CalX P w K mg base CX0 1 "inner_processes" (spInner C)) : FnOk P w K mg base CX0 2 f fd ["kind", "parts"] (spSize C Pr.depth) := by
  refine F.ok scDepth (fun vs H Q E h => ?_) (fun cdv A outer s H vs Q E hr h => ?_)
  · obtain ⟨p, t, ps, rfl, _⟩ := h
    rfl
  · obtain ⟨p, t, ps, rfl, ht, hl, hP, k⟩ := h
    obtain ⟨rs, hI⟩ := hP.inn
    refine ⟨_, pss_one (ps_ret (pe_op op_add pe_int (pe_callBK (ck_maxD rfl (hu2_of hr)) (by rfl) T.max (by decide +kernel) (pa_cons
      (pe_lc (own := [("process", 2)]) (g := gName 2) (tt := tYes) (te := tFld K (tVar 2) "depth") rfl scDepth.nd (pi_list (pe_cx (E := fun _ => E0) GI hr (by decide) (by rfl) at0 (pa_cons (pv 0) (pa_cons (pv 1) pa_nil)))) (blkOk_by (own := [("process", 2)]) (N := ["kind", "parts", "process"]) (sc := defScope (topS 25)) (by decide +kernel))
          (fun _ _ _ _ _ => pg_name (i := 2) scDepth.nd rfl (Or.inl rfl)) (fun _ _ _ _ _ => pts_nil) (fun _ _ _ _ _ => pe_fld (pv 2) rfl)) pa_nil) (pk_cons pe_int pk_nil)))), ?_⟩
    have g : Ev (tOp (rI0 fun i j => .int (i + j)) (tC (.int 1)) (tCKw (FsR.rMaxD K) (tCons (tLc (iList K (tCallS (spInner C) (fun _ => E0) (tCons (tVar 0) (tCons (tVar 1) tNil)))) (gName 2) tYes (tFld K (tVar 2) "depth") [2]) tNil) (tCons (tC (.int 0)) tNil)))
        (start ["kind", "parts", "process"] [.str p.kind, .ref t]) H (.int (1 + maxDef 0 (p.inner.map Pr.depth))) :=
      ev_op ev_c (ev_maxD (el_flds (fun h => fld_depth h) T.cl T.nD (el_cx (ea_cons (ev_var rfl) (ea_cons (ev_var rfl) ea_nil)) (sp_inner ht hl hI)) (hI.short hl) hI.at (fun _ => rfl) (fun _ => rfl))) rv_I0
    rw [Pr.depth_eq] at g
    exact s_ret g k
theorem scSize : FnScope ["kind", "parts", "own", "process"] ["kind", "parts"] (defScope (topS 24)) := ⟨rfl, rfl, rfl, by decide +kernel, rfl, by decide +kernel, by decide +kernel⟩
theorem own_eq {H : Hp} {ps : List V} {p : Pr} (h : PartsAt C H ps p) : p.own = if decide (V.str p.kind = V.str "choice") = true then (if ((ps.length : Nat) : Int) > 1 then ((ps.length : Nat) : Int) else 1) else 1 := by
  cases p with
  | choice os =>
    rw [if_pos (show decide (V.str (Pr.choice os).kind = V.str "choice") = true from kCh)]
    show max 1 (os.len : Int) = _
    rw [OfsAt.len h]
    by_cases q : ((os.len : Nat) : Int) > 1
    · rw [if_pos q]
      omega
    · rw [if_neg q]
      omega
  | new n k r =>
    rw [show decide (V.str (Pr.new n k r).kind = V.str "choice") = false from kNew]
    rfl
  | cond l r y n =>
    rw [show decide (V.str (Pr.cond l r y n).kind = V.str "choice") = false from kIf]
    rfl
  | call n ops =>
    rw [show decide (V.str (Pr.call n ops).kind = V.str "choice") = false from kCall]
    rfl
theorem ok_size {f : Addr} {fd : FuncData} (F : Fun K "size_of" "size_of" (topS 24) f fd) (B : BasT K mg) (T : TerT K mg C CB) (GI : CalX P w K mg base CX0 1 "inner_processes" (spInner C)) : FnOk P w K mg base CX0 2 f fd ["kind", "parts"] (spSize C Pr.size) := by
  refine F.ok scSize (fun vs H Q E h => ?_) (fun cdv A outer s H vs Q E hr h => ?_)
  · obtain ⟨p, t, ps, rfl, _⟩ := h
    rfl
  · obtain ⟨p, t, ps, rfl, ht, hl, hP, k⟩ := h
    obtain ⟨rs, hI⟩ := hP.inn
    refine ⟨_, pss_cons (ps_set (i := 2) scSize.nd rfl (Or.inl rfl) (pe_ifExp (pt_cmpR op_eq (pv 0) pe_str (nomark _)) (pe_callB (call_max2 rfl) (by rfl) T.max (by decide +kernel) (pa_cons pe_int (pa_cons (pe_callB call_len_seq (by rfl) B.len PySem.boot_len (pa_cons (pv 1) pa_nil)) pa_nil))) pe_int))
      (pss_one (ps_ret (pe_op op_add (pv 2) (pe_callB (cr_sum rfl) (by rfl) T.sum (by decide +kernel) (pa_cons
      (pe_lc (own := [("process", 3)]) (g := gName 3) (tt := tYes) (te := tFld K (tVar 3) "size") rfl scSize.nd (pi_list (pe_cx (E := fun _ => E0) GI hr (by decide) (by rfl) at0 (pa_cons (pv 0) (pa_cons (pv 1) pa_nil)))) (blkOk_by (own := [("process", 3)]) (N := ["kind", "parts", "own", "process"]) (sc := defScope (topS 24)) (by decide +kernel))
          (fun _ _ _ _ _ => pg_name (i := 3) scSize.nd rfl (Or.inl rfl)) (fun _ _ _ _ _ => pts_nil) (fun _ _ _ _ _ => pe_fld (pv 3) rfl)) pa_nil))))), ?_⟩
    refine q_asg (v := .int p.own) (ev_if (b := decide (V.str p.kind = V.str "choice")) (et_test (ev_op (ev_var rfl) ev_c (rv_eq rfl))) (fun hb => ?_) (fun hb => ?_)) (fun H1 e1 => ?_)
    · have q := ev_max2 (σ := start ["kind", "parts", "own", "process"] [.str p.kind, .ref t]) (H := H) (ta := tC (.int 1)) (i := 1) (j := ((ps.length : Nat) : Int)) ev_c (ev_lenT (K := K) (ta := tVar 1) (ev_var rfl) (st_of ht))
      rw [own_eq hP, if_pos hb]
      exact q
    · rw [own_eq hP, if_neg (by rw [hb]; decide)]
      exact ev_c
    · have g : Ev (tOp (rI0 fun i j => .int (i + j)) (tVar 2) (tCB (rSum K) (tCons (tLc (iList K (tCallS (spInner C) (fun _ => E0) (tCons (tVar 0) (tCons (tVar 1) tNil)))) (gName 3) tYes (tFld K (tVar 3) "size") [3]) tNil)))
          ((start ["kind", "parts", "own", "process"] [.str p.kind, .ref t]).set 2 (some (.int p.own))) H1 (.int (p.own + (p.inner.map Pr.size).sum)) :=
        ev_op (ev_var rfl) (ev_sum (el_flds (fun h => fld_size h) T.cl T.nS (el_cx (ea_cons (ev_var rfl) (ea_cons (ev_var rfl) ea_nil)) (sp_inner (e1 _ _ ht) hl (hI.ex e1))) (hI.short hl) (hI.at.ex e1) (fun _ => rfl) (fun _ => rfl))) rv_I0
      rw [Pr.size_eq] at g
      exact s_ret g (fun H2 e2 => k H2 (e1.trans e2))
end
end Fs

set_option Elab.async false
set_option linter.all false
set_option maxRecDepth 100000
set_option maxHeartbeats 2000000
namespace Fs
open PySem L2 Evl FsE FsC FsR
def badInit (p : Pr) : Option Str := if p.depth ≤ 20 then (if p.size ≤ 400 then none else some "size") else some "depth"
def spInit (C CB : Addr) : Sp := fun vs H Q E => ∃ (a dx : Addr) (p : Pr) (t : Addr) (ps : List V) (H0 : Hp), vs = [.ref a, .str p.kind, .ref t] ∧ H a = some (.ins C dx []) ∧ H0 a = none ∧ Ex H0 H ∧ H0 t = some (.tup ps) ∧ ps.length ≤ 100 ∧ PartsAt C H0 ps p ∧
  (badInit p = none → ∀ H', Ex H0 H' → H' a = some (.ins C dx (pFlds p.kind t p.depth p.size)) → Q .non H') ∧ (∀ f, badInit p = some f → Bad CB f H0 E)
section
variable {P : Program} {w : World} {K : PySem.W.Frag} {mg : Str → Option Value} {base : Heap} {C CB : Addr}
theorem q_fld {σ : L2.St} {H : Hp} {ta tv : TE} {a C dx : Addr} {fs : List (Str × V)} {f : Str} {v : V} {tz : TS} {D : Ends} (hv : Ev tv σ H v) (ho : Ev ta σ H (.ref a)) (hi : H a = some (.ins C dx fs)) (cl : Cls K C) (n : NoAttr K C f) (hl : fs.length < 1000)
    (k : ∀ H1, Ex H H1 → tz D σ (upd H1 a (.ins C dx (putF f v fs)))) : tSeq (sFld K ta tv f) tz D σ H :=
  hv H (Ex.refl H) _ fun H1 e1 => ho H1 e1 _ fun H2 e2 => ⟨a, C, dx, fs, rfl, (e1.trans e2) _ _ hi, cl, n, hl, k H2 (e1.trans e2)⟩
theorem scInit : FnScope ["self", "kind", "parts"] ["self", "kind", "parts"] (defScope (inClass (topS 26) 0)) := ⟨rfl, rfl, rfl, by decide +kernel, rfl, by decide +kernel, by decide +kernel⟩
theorem putF_len (f : Str) (v : V) : ∀ fs : List (Str × V), (putF f v fs).length ≤ fs.length + 1
  | [] => by
    show 1 ≤ 0 + 1
    decide
  | (g, x) :: fs => by
    have ih := putF_len f v fs
    show (if g = f then (g, v) :: fs else (g, x) :: putF f v fs).length ≤ _
    by_cases h : g = f
    · rw [if_pos h]
      simp
    · rw [if_neg h]
      simp only [List.length_cons]
      omega
theorem ok_init {f : Addr} {fd : FuncData} {k : Nat} (F : Fun K "__init__" "Process.__init__" (inClass (topS 26) 0) f fd) (T : TerT K mg C CB) (GD : CalX P w K mg base CX0 2 "depth_of" (spSize C Pr.depth)) (GS : CalX P w K mg base CX0 2 "size_of" (spSize C Pr.size))
    (GM : CalX P w K mg base (L2.CX P w) k "demand" (spDemand CB)) (hk : 2 ≤ k) : FnOk P w K mg base (L2.CX P w) (k + 1) f fd ["self", "kind", "parts"] (spInit C CB) := by
  refine F.okX scInit (fun vs H Q E h => ?_) (fun cdv A outer s H vs Q E hr h => ?_)
  · obtain ⟨a, dx, p, t, ps, H0, rfl, _⟩ := h
    rfl
  · obtain ⟨a, dx, p, t, ps, H0, rfl, ha, hna, e0, ht, hl, hP, k1, k2⟩ := h
    refine ⟨_, pss_cons (ps_fld (pv 0) (pv 1) rfl) (pss_cons (ps_fld (pv 0) (pv 2) rfl)
      (pss_cons (ps_fld (pv 0) (pe_cx (E := fun _ => E0) GD hr hk (by rfl) at0 (pa_cons (pv 1) (pa_cons (pv 2) pa_nil))) rfl)
      (pss_cons (ps_fld (pv 0) (pe_cx (E := fun _ => E0) GS hr hk (by rfl) at0 (pa_cons (pv 1) (pa_cons (pv 2) pa_nil))) rfl)
      (pss_cons (ps_expr (pe_cx (E := WE (fun cls d _ H => E cls d H)) GM hr (Nat.le_refl _) (by rfl) (fun σ => passAt (takes_of rfl rfl rfl rfl) σ) (pa_cons (pe_cmpR op_le (pe_fld (pv 0) rfl) (C8.pe_gc (by rfl) T.depth) (nomark _)) (pa_cons pe_str pa_nil))))
      (pss_one (ps_expr (pe_cx (E := WE (fun cls d _ H => E cls d H)) GM hr (Nat.le_refl _) (by rfl) (fun σ => passAt (takes_of rfl rfl rfl rfl) σ) (pa_cons (pe_cmpR op_le (pe_fld (pv 0) rfl) (C8.pe_gc (by rfl) T.size) (nomark _)) (pa_cons pe_str pa_nil))))))))), ?_⟩
    refine q_fld (ev_var rfl) (ev_var rfl) ha T.cl T.nK (by show 0 < 1000; decide) (fun H1 e1 => ?_)
    have x1 : Ex H0 (upd H1 a (.ins C dx (putF "kind" (.str p.kind) []))) := Ex.mut (e0.trans e1) hna
    refine q_fld (ev_var rfl) (ev_var rfl) upd_same T.cl T.nP (by have := putF_len "kind" (.str p.kind) []; simp only [List.length_nil] at this; omega) (fun H2 e2 => ?_)
    have x2 : Ex H0 (upd H2 a (.ins C dx (putF "parts" (.ref t) (putF "kind" (.str p.kind) [])))) := Ex.mut (x1.trans e2) hna
    refine q_fld (ev_cx (ea_cons (ev_var rfl) (ea_cons (ev_var rfl) ea_nil)) (sp_size (x2 _ _ ht) hl (hP.ex x2))) (ev_var rfl) upd_same T.cl T.nD (by have h1 := putF_len "kind" (.str p.kind) []; have h2 := putF_len "parts" (.ref t) (putF "kind" (.str p.kind) []); simp only [List.length_nil] at h1; omega) (fun H3 e3 => ?_)
    have x3 : Ex H0 (upd H3 a (.ins C dx (putF "depth" (.int p.depth) (putF "parts" (.ref t) (putF "kind" (.str p.kind) []))))) := Ex.mut (x2.trans e3) hna
    refine q_fld (ev_cx (ea_cons (ev_var rfl) (ea_cons (ev_var rfl) ea_nil)) (sp_size (x3 _ _ ht) hl (hP.ex x3))) (ev_var rfl) upd_same T.cl T.nS (by have h1 := putF_len "kind" (.str p.kind) []; have h2 := putF_len "parts" (.ref t) (putF "kind" (.str p.kind) []); have h3 := putF_len "depth" (.int p.depth) (putF "parts" (.ref t) (putF "kind" (.str p.kind) [])); simp only [List.length_nil] at h1; omega) (fun H4 e4 => ?_)
    have x4 : Ex H0 (upd H4 a (.ins C dx (pFlds p.kind t p.depth p.size))) := Ex.mut (x3.trans e4) hna
    have h4 : (upd H4 a (.ins C dx (pFlds p.kind t p.depth p.size))) a = some (.ins C dx (pFlds p.kind t p.depth p.size)) := upd_same
    refine q_demand (by decide +kernel) (ev_op (ev_fld (ev_var rfl) h4 T.cl T.nD pf_depth) ev_c rv_I0) (fun hb H5 e5 => ?_) (fun hb => ?_)
    · have hd : p.depth ≤ 20 := by simpa using hb
      refine s_demand (by decide +kernel) (ev_op (ev_fld (ev_var rfl) (e5 _ _ h4) T.cl T.nS pf_size) ev_c rv_I0) (fun hb2 H6 e6 => ?_) (fun hb2 => ?_)
      · have hs : p.size ≤ 400 := by simpa using hb2
        exact k1 (by unfold badInit; rw [if_pos hd, if_pos hs]) H6 ((x4.trans e5).trans e6) ((e5.trans e6) _ _ h4)
      · have hs : ¬ p.size ≤ 400 := by simpa using hb2
        exact (k2 "size" (by unfold badInit; rw [if_pos hd, if_neg hs])).ex (x4.trans e5)
    · have hd : ¬ p.depth ≤ 20 := by simpa using hb
      exact (k2 "depth" (by unfold badInit; rw [if_neg hd])).ex x4
/-- what a maker gives: the process, or the field that is refused -/
def Made (C CB : Addr) (o : Option Str) (p : Pr) (H : Hp) (Q : VK) (E : XK) : Prop :=
  (o = none → ∀ a H', H a = none → Ex H H' → PrAt C H' a p → Q (.ref a) H') ∧ (∀ f, o = some f → Bad CB f H E)
theorem Made.ex {o : Option Str} {p : Pr} {H H' : Hp} {Q : VK} {E : XK} (e : Ex H H') (h : Made C CB o p H Q E) : Made C CB o p H' Q E :=
  ⟨fun ho a H2 ha e2 hp => h.1 ho a H2 (fresh_back e ha) (e.trans e2) hp, fun f hf => (h.2 f hf).ex e⟩
/-- a tuple that holds the parts of p -/
def EvP (C : Addr) (tp : TE) (σ : L2.St) (H : Hp) (p : Pr) : Prop := ∀ H1, Ex H H1 → ∀ Q : VK, (∀ t H2 ps, H1 t = none → Ex H1 H2 → H2 t = some (.tup ps) → ps.length ≤ 100 → PartsAt C H2 ps p → Q (.ref t) H2) → tp σ H1 Q
theorem EvP.of {σ : L2.St} {H : Hp} {tp : TE} {p : Pr} {ps : List V} (h : EvU tp σ H ps) (hl : ps.length ≤ 100) (hP : PartsAt C H ps p) : EvP C tp σ H p := fun H1 e Q q => h H1 e Q fun t H2 ht e2 h2 => q t H2 ps ht e2 h2 hl (hP.ex (e.trans e2))
/-- Process(kind, parts) -/
theorem ret_make {σ : L2.St} {H : Hp} {tk tp : TE} {p : Pr} {D : Ends} {E : XK} (hkd : Ev tk σ H (.str p.kind)) (hp : EvP C tp σ H p) (m : Made C CB (badInit p) p H D.rt E) :
    tRet (tMake C (spInit C CB) [] E (tCons tk (tCons tp tNil))) D σ H :=
  hkd H (Ex.refl H) _ fun H1 e1 => hp H1 e1 _ fun t H2 ps ht e2 h2 hl hP => fun x dx hx hdx hne => by
    have x0 : Ex H2 (upd (upd H2 dx (.own x)) x (.ins C dx [])) := by
      intro b o hb
      rw [upd_ne (ne_of_none hb hx), upd_ne (ne_of_none hb hdx)]
      exact hb
    refine ⟨x, dx, p, t, ps, H2, rfl, upd_same, hx, x0, h2, hl, hP, fun hb H' e' h' => ⟨rfl, ?_⟩, fun f hf => ((m.2 f hf).ex (e1.trans e2))⟩
    exact m.1 hb x H' (fresh_back (e1.trans e2) hx) ((e1.trans e2).trans e') (PrAt.mk ⟨dx, h'⟩ (e' _ _ h2) (hP.ex e'))
end
end Fs

set_option Elab.async false
set_option linter.all false
set_option maxRecDepth 100000
set_option maxHeartbeats 4000000
/-! set(xs), xs a list or a tuple of texts: how many there are tells whether they all differ. -/
namespace FsT
open PySem PySem.Spec PyProof.Rows
/-- c of the first i texts differ; all of them just when none stands twice -/
structure Few (xs : List Str) (i c : Nat) : Prop where
  le : c ≤ i
  all : c = i ↔ (xs.take i).Nodup
theorem nodup_snoc {l : List Str} {z : Str} : (l ++ [z]).Nodup ↔ l.Nodup ∧ z ∉ l := by
  rw [List.nodup_append]
  constructor
  · intro h
    exact ⟨h.1, fun hz => h.2.2 z hz z (List.mem_singleton.mpr rfl) rfl⟩
  · intro h
    refine ⟨h.1, by simp, fun a ha b hb e => ?_⟩
    rw [List.mem_singleton.mp hb] at e
    exact h.2 (e ▸ ha)
theorem Few.step {xs : List Str} {i c : Nat} {z : Str} (f : Few xs i c) (hz : xs[i]? = some z) : Few xs (i + 1) (if decide (z ∈ xs.take i) = true then c else c + 1) := by
  have e : xs.take (i + 1) = xs.take i ++ [z] := by
    rw [List.take_add_one, hz]
    rfl
  have h1 := f.le
  have h2 := f.all
  by_cases h : z ∈ xs.take i
  · rw [if_pos (decide_eq_true h)]
    refine ⟨by omega, ⟨fun q => absurd q (by omega), fun q => ?_⟩⟩
    rw [e, nodup_snoc] at q
    exact absurd h q.2
  · rw [if_neg (by rw [decide_eq_false h]; decide)]
    refine ⟨by omega, ?_⟩
    rw [e, nodup_snoc]
    constructor
    · intro q
      exact ⟨h2.mp (by omega), h⟩
    · intro q
      have := h2.mpr q.1
      omega
section
variable {P : Program} {w : World} {A : Around} {R : Result → Shared → Prop} {I S : Addr} {fp wr : List Addr} {G : Array GenState → Array GenState → Prop} {n : Nat} {Pv : Nat → Value → Prop} {St : Nat → Shared → Prop}
/-- one text after the other into the set at S -/
theorem tx_loop (W : WalksS P w A.in1 I fp wr G n Pv St) (hS : S ∉ fp) {xs : List Str} (hn : n ≤ 2000) (hv : ∀ i v, Pv i v → ∃ z t, xs[i]? = some z ∧ v = .str z t) (R0 : ∀ s' c, Moved (S :: wr) G s0 s' → Few xs n c → s'.heap.SetOf (PySem.strKind P w) S (fun k => decide (k ∈ xs.take n)) c → R (.ok (.ret .none)) s') :
    ∀ (m i : Nat) (s : Shared), i + m = n → St i s → Moved (S :: wr) G s0 s → (∃ c, Few xs i c ∧ s.heap.SetOf (PySem.strKind P w) S (fun k => decide (k ∈ xs.take i)) c) → codeAny (model P w) A (.builtin "set.update.loop" ⟨[.ref S, .ref I], []⟩) R s := by
  have out : S ∉ wr := fun z => hS (W.sub _ z)
  have up : ∀ b ∈ wr, b ∈ S :: wr := fun b => List.mem_cons_of_mem _
  have stay : ∀ {u u' : Shared} {q : Str → Bool} {c : Nat}, Moved wr G u u' → u.heap.SetOf (PySem.strKind P w) S q c → u'.heap.SetOf (PySem.strKind P w) S q c := fun mv ⟨o, es, ep, t, ho, r⟩ => ⟨o, es, ep, t, mv.heap S o out ho, r⟩
  intro m
  induction m with
  | zero =>
    intro i s him hst mv0 ⟨c, fw, so⟩
    have hi : i = n := by omega
    subst hi
    refine codeAny_builtin PyProof.Rows.F.entry_set_update_loop ?_
    rw [Around.under_plainId F.plain_set_update_loop]
    show wpAny _ _ (pyNext (.ref I) >>= fun _ => _) _ _ s
    exact wpAny_bind (W.done s _ _ hst fun s' mv => wpAny_pure (R0 s' c (Moved.trans W.gtrans mv0 (mv.mono up)) fw (stay mv so)))
  | succ m ih =>
    intro i s him hst mv0 ⟨c, fw, so⟩
    refine codeAny_builtin PyProof.Rows.F.entry_set_update_loop ?_
    rw [Around.under_plainId F.plain_set_update_loop]
    show wpAny _ _ (pyNext (.ref I) >>= fun _ => _) _ _ s
    refine wpAny_bind (W.item i s _ _ (by omega) hst fun v s1 hp hst1 mv => ?_)
    obtain ⟨z, t, hz, rfl⟩ := hv i v hp
    show wpAny _ _ (holding [Value.str z t] (setAdd S (.str z t)) >>= fun _ => _) _ _ s1
    unfold setAdd
    refine wpAny_bind (wpAny_holding (wpAny_holding (wpAny_bind ((PySem.strKind P w).pyHash (strKind_is P w z t) ?_))))
    have c0 := fw.le
    have so1 := stay mv so
    refine wpAny_setAddHashed_of (s := { s1 with toks := s1.toks + 1 }) (strKind_is P w z t) rfl so1 (by show c + 1 < 4096; omega) fun h' but so2 => ?_
    have so3 : h'.SetOf (PySem.strKind P w) S (fun k => decide (k ∈ xs.take (i + 1))) (if decide (z ∈ xs.take i) = true then c else c + 1) := SetOf_congr so2 (fun k => by
      rw [List.take_add_one, hz]
      simp [List.mem_append]) rfl
    refine wpAny_pure ⟨plainId_quiet F.plain_set_update_loop _, ih (i + 1) _ (by omega) (W.frame (i + 1) s1 h' _ hst1 (Nat.le_succ _) fun b hb o ho => ?_) ?_ ⟨_, fw.step hz, so3⟩⟩
    · exact (but.2 b fun z => hS (z ▸ hb)).trans ho
    · refine Moved.trans W.gtrans mv0 ((mv.mono up).then_heap (Nat.le_succ _) fun b o hb ho => ?_)
      exact (but.2 b fun z => hb (z ▸ List.mem_cons_self ..)).trans ho
end
section
variable {P : Program} {w : World} {A : Around} {E : Value → Shared → Prop} {s : Shared}
/-- what set() reads: a list, a tuple -/
structure Feed (P : Program) (w : World) (T iT : String) (items : Array Value) (nl : Nat) (od : Option Addr) (sl : Array (Option Value)) (l : Addr) : Prop where
  s1 : isSubtype (Value.type T) (Value.type "set") = pure false
  s2 : isSubtype (Value.type T) (Value.type "frozenset") = pure false
  nd : (Value.type T == Value.type "dict") = false
  it : ∀ (A' : Around) (E' : Value → Shared → Prop) (u : Shared) (Q' : Value → Shared → Prop), u.heap.get? l = some { cls := .type T, dict := od, data := .seq items nl, slots := sl } →
    Q' (.ref u.heap.objs.size) { u with heap := u.heap.push { cls := .type iT, data := .fields #[.ref l, .int 0 0] } } → wpAny (model P w) A' (pyIter (.ref l)) Q' E' u
  wk : ∀ (A' : Around) (I : Addr), A'.handled = none → l ≠ I → ∃ St : Nat → Shared → Prop, WalksS P w A' I [I, l] [I] (fun a b => b = a) items.size (fun i v => items[i]? = some v) St ∧
    ∀ u : Shared, u.heap.get? I = some { cls := .type iT, data := .fields #[.ref l, .int 0 0] } → u.heap.get? l = some { cls := .type T, dict := od, data := .seq items nl, slots := sl } → St 0 u
theorem feed_list {items : Array Value} {nl : Nat} {od : Option Addr} {sl : Array (Option Value)} {l : Addr} : Feed P w "list" "list_iterator" items nl od sl l :=
  ⟨PySem.F.sub_list_set, PySem.F.sub_list_frozenset, by decide, fun _ _ _ _ h q => wpAny_pyIter_list ⟨_, h, rfl, nl, rfl⟩ q, fun A' I ha ne => ⟨_, (Walks.list ha I l ne items).toS, fun u h1 h2 => ⟨⟨_, h1, rfl, rfl⟩, ⟨_, h2, rfl, nl, rfl⟩⟩⟩⟩
theorem feed_tup {items : Array Value} {nl : Nat} {od : Option Addr} {sl : Array (Option Value)} {l : Addr} : Feed P w "tuple" "tuple_iterator" items nl od sl l :=
  ⟨PySem.F.sub_tuple_set, PySem.F.sub_tuple_frozenset, by decide, fun _ _ _ _ h q => wpAny_pyIter_tuple ⟨_, h, rfl, nl, rfl⟩ q, fun A' I ha ne => ⟨_, (Walks.tuple ha I l ne items).toS, fun u h1 h2 => ⟨⟨_, h1, rfl, rfl⟩, ⟨_, h2, rfl, nl, rfl⟩⟩⟩⟩
/-- set(l) -/
theorem tx_call {T iT : String} {items : Array Value} {nl : Nat} {od : Option Addr} {sl : Array (Option Value)} {l : Addr} {xs : List Str} {Q : Value → Shared → Prop} (D : Feed P w T iT items nl od sl l) (ha : A.handled = none)
    (ho : s.heap.get? l = some { cls := .type T, dict := od, data := .seq items nl, slots := sl }) (hx : StrsAre items.toList xs) (hl : xs.length ≤ 2000)
    (hq : ∀ h' tk c, Few xs xs.length c → h'.SetOf (PySem.strKind P w) s.heap.objs.size (fun k => decide (k ∈ xs)) c → (∀ b o, s.heap.get? b = some o → h'.get? b = some o) → Q (.ref s.heap.objs.size) { s with heap := h', toks := tk }) :
    wpAny (model P w) A (call (.type "set") [.ref l]) Q E s := by
  have cs := PySem.F.called_set
  obtain ⟨cc, rest, mro0⟩ := cs.mro
  have made0 := cs.made
  have sub0 := cs.sub
  refine wpAny_call (codeAny_of_tree ?_)
  show wpAny _ _ (callAny (.type "set") { pos := [.ref l] }) _ _ _
  refine wpAny_pure ⟨Code.quiet_builtin _ (by decide +kernel), codeAny_builtin PySem.F.entry_type_call ?_⟩
  rw [Around.under_plain (weight_type_call_type "set" [Value.ref l] []) rfl]
  have nt0 := cs.notType
  have cr0 := cs.canCreate
  have tc0 := PySem.F.typeCall_set_1 (Value.ref l)
  repeat (any_goals (first | assumption | wp_step))
  refine codeAny_mono (code_set_new_1 (Value.ref l) (E := E) (Q₁ := fun v u => ∃ b : Bool, v = .ref s.heap.objs.size ∧ u = { s with heap := s.heap.push { cls := .type "set", data := .set #[] 0 (.fresh 0 0 b) } }) (fun b => ⟨b, rfl, rfl⟩)) (fun r u hr => ?_)
  match r, hr with
  | .error _, hr => exact hr
  | .ok .next, hr => exact hr.elim
  | .ok .brk, hr => exact hr.elim
  | .ok .cont, hr => exact hr.elim
  | .ok (.ret v), hr =>
    obtain ⟨b, rfl, rfl⟩ := hr
    have at0 : (s.heap.push { cls := .type "set", data := .set #[] 0 (.fresh 0 0 b) }).get? s.heap.objs.size = some { cls := .type "set", data := .set #[] 0 (.fresh 0 0 b) } := Heap.get?_push_size _ rfl
    have ty0 : Shared.TypeIs { s with heap := s.heap.push { cls := .type "set", data := .set #[] 0 (.fresh 0 0 b) } } (.ref s.heap.objs.size) "set" := ⟨_, at0, rfl⟩
    have look0 := cs.init.lookup
    have bind0 := cs.init.bind (.ref s.heap.objs.size)
    repeat (any_goals (first | assumption | wp_step))
    refine codeAny_mono (codeAny_call_builtin (R := wants (fun v u => v = .none ∧ ∃ h' tk c, u = { s with heap := h', toks := tk } ∧ Few xs xs.length c ∧ h'.SetOf (PySem.strKind P w) s.heap.objs.size (fun k => decide (k ∈ xs)) c ∧ ∀ b o, s.heap.get? b = some o → h'.get? b = some o) E)
      cs.init.plain PySem.F.entry_set_init (check_set_init_1 ty0 ?_)) (fun r2 u2 hr2 => ?_)
    · have ho1 : (s.heap.push { cls := .type "set", data := .set #[] 0 (.fresh 0 0 b) }).get? l = some { cls := .type T, dict := od, data := .seq items nl, slots := sl } := Heap.get?_push_of_some _ ho
      have d1 := D.s1
      have d2 := D.s2
      have d3 := D.nd
      unfold Builtin.«set.__init__» noKeywords Builtin.Frozenset.updateFrom
      generalize hI : pyIter = IT
      wp_walk
      subst hI
      have nx : items.size = xs.length := by
        have e := StrsAre.len_eq hx
        rw [Array.length_toList] at e
        exact e
      have ls : l < s.heap.objs.size := Heap.lt_size ho
      have sz1 : (s.heap.push { cls := .type "set", data := .set #[] 0 (.fresh 0 0 b) }).objs.size = s.heap.objs.size + 1 := Heap.size_push ..
      have n1 : l ≠ s.heap.objs.size + 1 := Nat.ne_of_lt (Nat.lt_succ_of_lt ls)
      have n2 : s.heap.objs.size ≠ s.heap.objs.size + 1 := Nat.ne_of_lt (Nat.lt_succ_self _)
      have n3 : s.heap.objs.size ≠ l := (Nat.ne_of_lt ls).symm
      refine D.it _ _ _ _ ho1 (wpAny_bind (wpAny_runValue ?_))
      have at1 : ((s.heap.push { cls := .type "set", data := .set #[] 0 (.fresh 0 0 b) }).push { cls := .type iT, data := .fields #[.ref l, .int 0 0] }).get? s.heap.objs.size = some { cls := .type "set", data := .set #[] 0 (.fresh 0 0 b) } := Heap.get?_push_of_some _ at0
      obtain ⟨St, wk, st0⟩ := D.wk A.in1.in1.in1 (s.heap.push { cls := .type "set", data := .set #[] 0 (.fresh 0 0 b) }).objs.size (by simp [ha]) (by rw [sz1]; exact n1)
      refine tx_loop (s0 := { s with heap := (s.heap.push { cls := .type "set", data := .set #[] 0 (.fresh 0 0 b) }).push { cls := .type iT, data := .fields #[.ref l, .int 0 0] } }) wk (by
          simp only [List.mem_cons, List.not_mem_nil, or_false, not_or]
          exact ⟨by rw [sz1]; exact n2, n3⟩) (xs := xs) (by omega) (fun i v hv => ?_) (fun u c mv fw so => ?_) items.size 0 _ (Nat.zero_add _) (st0 _ (Heap.get?_push_size _ rfl) (Heap.get?_push_of_some _ ho1)) ⟨fun _ _ _ e => e, rfl, rfl, rfl, Nat.le_refl _⟩
        ⟨0, ⟨Nat.le_refl _, by simp⟩, SetOf_congr ((setObjOf_fresh (knd := PySem.strKind P w) b).setOf at1 (by show 0 < 4096; decide)) (fun k => by simp) rfl⟩
      · obtain ⟨t, e⟩ := SS.strs_at hx i v (by rw [Array.getElem?_toList]; exact hv)
        have hi : i < xs.length := by
          rw [← nx]
          exact (Array.getElem?_eq_some_iff.mp hv).1
        exact ⟨xs[i], t, List.getElem?_eq_getElem hi, by rw [e, List.getD_eq_getElem?_getD, List.getElem?_eq_getElem hi]; rfl⟩
      · obtain ⟨h2, g2, d2, t2, o2⟩ := u
        obtain rfl : g2 = s.gens := mv.gens
        obtain rfl : d2 = s.drawn := mv.drawn
        obtain rfl : o2 = s.os := mv.os
        rw [nx] at fw so
        rw [List.take_length] at so
        refine wpAny_pure ?_
        show wpAny _ _ (ret Value.none) _ _ _
        refine wpAny_pure ⟨rfl, h2, t2, c, rfl, fw, so, fun d o e => ?_⟩
        have dl : d < s.heap.objs.size := Heap.lt_size e
        exact mv.heap d o (by
          simp only [List.mem_cons, List.not_mem_nil, or_false, not_or]
          exact ⟨Nat.ne_of_lt dl, by rw [sz1]; exact Nat.ne_of_lt (Nat.lt_succ_of_lt dl)⟩) (Heap.get?_push_of_some _ (Heap.get?_push_of_some _ e))
    · match r2, hr2 with
      | .error _, hr2 => exact hr2
      | .ok .next, hr2 => exact hr2.elim
      | .ok .brk, hr2 => exact hr2.elim
      | .ok .cont, hr2 => exact hr2.elim
      | .ok (.ret v), hr2 =>
        obtain ⟨rfl, h', tk, c, rfl, fw, so, kp⟩ := hr2
        repeat (any_goals (first | assumption | wp_step))
        exact hq h' tk c fw so kp
end
end FsT

set_option Elab.async false
set_option linter.all false
set_option maxRecDepth 100000
set_option maxHeartbeats 2000000
namespace FsR
open PySem PySem.Spec PyProof.Rows L2 FsT
/-- len(set(xs)), xs a list or a tuple of texts -/
def tLenTx (K : PySem.W.Frag) (ta : TE) : TE := fun σ H Q => ta σ H fun x H1 => ∃ (l : Addr) (xs : List Str), x = .ref l ∧ (SqL K H1 l (xs.map V.str) ∨ SqT K H1 l (xs.map V.str)) ∧ xs.length ≤ 2000 ∧ ∀ c, Few xs xs.length c → Q (.int (c : Nat)) H1
theorem pe_lenTx {X : Cx} {a : Expr} {ta : TE} {p p2 q pos : Pos} (hc : X.calm = true) (hg : Gl X "len") (hm : X.mg "len" = none) (hg2 : Gl X "set") (hm2 : X.mg "set" = none) (ha : PE X a ta)
    (na : starEach [a] X.env = (false, eval a X.env) :: starEach [] X.env := by rfl) : PE X (.Call (.Name "len" p) [.Call (.Name "set" p2) [a] [] q] [] pos) (tLenTx X.K ta) := by
  refine ⟨fun pins s σ H Q I h => Call_ (ld_blt I hg hm PySem.boot_len (callWith_builtin1 (args_cons (Call_ (ld_blt I hg2 hm2 boot_set (callWith_type1 (args_cons (thn (ha.run pins s σ H _ I h) fun v u ⟨x, H1, J, rx, l, xs, ex, hq, hl, k⟩ => args_nil ?_) na) na rfl))) rfl) rfl rfl))⟩
  subst ex
  obtain rfl : v = Value.ref l := rx
  have fin : ∀ (h' : Heap) (tk c : Nat), Few xs xs.length c → h'.SetOf (PySem.strKind X.prog X.w) u.heap.objs.size (fun k => decide (k ∈ xs)) c → (∀ b o, u.heap.get? b = some o → h'.get? b = some o) →
      wpAny (model X.prog X.w) X.A (spliced (backTo pos (starEach [] X.env))) (fun vs u2 => wpAny (model X.prog X.w) X.A (call (.builtin "len") (Value.ref u.heap.objs.size :: vs)) (EP X pins σ Q) X.xe u2) X.xe { u with heap := h', toks := tk } := fun h' tk c fw so kp => by
    refine args_nil ?_
    obtain ⟨o, es, ep, t, ho, hex, hd, _, _, hsm, hf, hn⟩ := so
    have J2 : Inv X pins σ H1 { u with heap := h', toks := tk } := J.kept kp
    have c0 := fw.le
    refine call_len_set ho hex hd hf (by rw [hn]; omega) ⟨.int (c : Nat), H1, J2.tok _, ⟨_, by rw [hn]⟩, k c fw⟩
  rcases hq with hq | hq
  · obtain ⟨its, r, pl, hz⟩ := J.list hq
    obtain ⟨⟨oc, od, dt, sl⟩, ho, e1, n, e2⟩ := pl.isList
    dsimp only at e1 e2
    subst e1 e2
    exact tx_call feed_list (J.ok.hd hc) ho (by simpa using strsAre_of r) hl fin
  · obtain ⟨its, r, ⟨⟨oc, od, dt, sl⟩, ho, e1, n, e2⟩, hz⟩ := J.tuple hq
    dsimp only at e1 e2
    subst e1 e2
    exact tx_call feed_tup (J.ok.hd hc) ho (by simpa using strsAre_of r) hl fin
end FsR

set_option Elab.async false
set_option linter.all false
set_option maxRecDepth 100000
set_option maxHeartbeats 2000000
namespace Fs
open PySem L2 Evl FsE FsC FsR FsT
def namesS (ns : List Str) : Bool := (ns.map nameS).all id && decide ns.Nodup
/-- names, in a list or a tuple -/
def NmsAt (H : Hp) (u : Addr) (ns : List Str) : Prop := H u = some (.lst (ns.map V.str)) ∨ H u = some (.tup (ns.map V.str))
theorem NmsAt.ex {H H' : Hp} {u : Addr} {ns : List Str} (e : Ex H H') (h : NmsAt H u ns) : NmsAt H' u ns := h.imp (e _ _) (e _ _)
theorem NmsAt.sq {K : PySem.W.Frag} {H : Hp} {u : Addr} {ns : List Str} (h : NmsAt H u ns) : SqL K H u (ns.map V.str) ∨ SqT K H u (ns.map V.str) := h.imp sq_of st_of
def spNames : Sp := fun vs H Q _ => ∃ (u : Addr) (ns : List Str), vs = [.ref u] ∧ NmsAt H u ns ∧ ns.length ≤ 90 ∧ (∀ z ∈ ns, z.length ≤ 40000) ∧ RetV (.bl (namesS ns)) H Q
section
variable {P : Program} {w : World} {K : PySem.W.Frag} {mg : Str → Option Value} {base : Heap} {C CB : Addr}
/-- len(set(xs)) == n, n the length of xs -/
theorem ev_differ {σ : L2.St} {H : Hp} {ta tb : TE} {u : Addr} {ns : List Str} (h : Ev ta σ H (.ref u)) (hu : NmsAt H u ns) (hl : ns.length ≤ 90) (hb : Ev tb σ H (.int ((ns.length : Nat) : Int))) : Ev (tOp rEq (tLenTx K ta) tb) σ H (.bl (decide ns.Nodup)) := fun H1 e Q q =>
  h H1 e _ fun H2 e2 => ⟨u, ns, rfl, (hu.ex (e.trans e2)).sq, by omega, fun c fw => hb H2 (e.trans e2) _ fun H3 e3 => rv_eq (x := .int (c : Nat)) (y := .int ((ns.length : Nat) : Int)) rfl H3 (Ex.refl H3) _ fun H4 e4 => by
    have a := fw.all
    rw [List.take_length] at a
    have b : decide (V.int ((c : Nat) : Int) = V.int ((ns.length : Nat) : Int)) = decide ns.Nodup := by
      by_cases hn : ns.Nodup
      · rw [decide_eq_true hn, a.mpr hn]
        exact decide_eq_true rfl
      · rw [decide_eq_false hn]
        refine decide_eq_false fun z => hn (a.mp ?_)
        injection z with z
        omega
    rw [b]
    exact q H4 ((e2.trans e3).trans e4)⟩
theorem nms_at {ns : List Str} {i : Nat} {x y : V} (hz : ∀ z ∈ ns, z.length ≤ 40000) (hx : (ns.map V.str)[i]? = some x) (hy : ((ns.map nameS).map V.bl)[i]? = some y) : OpV x ∧ y = .bl (nameV x) := by
  rw [List.map_map, List.getElem?_map] at hy
  rw [List.getElem?_map] at hx
  cases hq : ns[i]? with
  | none =>
    rw [hq] at hx
    cases hx
  | some z =>
    rw [hq] at hx hy
    have ex : V.str z = x := Option.some.inj hx
    have ey : V.bl (nameS z) = y := Option.some.inj hy
    subst ex
    exact ⟨hz z (List.mem_of_getElem? hq), ey.symm⟩
theorem scNames : FnScope ["texts", "text"] ["texts"] (defScope (topS 8)) := ⟨rfl, rfl, rfl, by decide +kernel, rfl, by decide +kernel, by decide +kernel⟩
theorem ok_are_names {f : Addr} {fd : FuncData} (F : Fun K "are_names" "are_names" (topS 8) f fd) (B : BasT K mg) (hset : mg "set" = none) (GN : CalX P w K mg base CX0 1 "is_name" (spPred nameV)) : FnOk P w K mg base CX0 2 f fd ["texts"] spNames := by
  refine F.ok scNames (fun vs H Q E h => ?_) (fun cdv A outer s H vs Q E hr h => ?_)
  · obtain ⟨u, ns, rfl, _⟩ := h
    rfl
  · obtain ⟨u, ns, rfl, hu, hl, hz, q⟩ := h
    have hlen : (ns.map V.str).length ≤ 40000 := by rw [List.length_map]; omega
    have hlen2 : ((ns.map nameS).map V.bl).length = (ns.map V.str).length := by simp
    have hbs : (((ns.map V.str).length : Nat) : Int) = ((ns.length : Nat) : Int) := by rw [List.length_map]
    have each : ∀ {σ : L2.St} {H2 : Hp} {i : Nat} {x y : V}, (ns.map V.str)[i]? = some x → ((ns.map nameS).map V.bl)[i]? = some y → σ[1]? = some (some x) → Ev (tCallS (spPred nameV) (fun _ => E0) (tCons (tVar 1) tNil)) σ H2 y := fun hx hy hv => by
      obtain ⟨a1, a2⟩ := nms_at hz hx hy
      rw [a2]
      exact ev_cx (ea_cons (ev_var hv) ea_nil) (sp_pred a1)
    rcases id hu with hu1 | hu1
    · refine ⟨_, pss_one (ps_ret (pe_and (pe_callB (cr_all rfl) (by rfl) B.all (by decide +kernel) (pa_cons
          (pe_lc (own := [("text", 1)]) (g := gName 1) (tt := tYes) (te := tCallS (spPred nameV) (fun _ => E0) (tCons (tVar 1) tNil)) rfl scNames.nd (pi_list (pv 0)) (blkOk_by (own := [("text", 1)]) (N := ["texts", "text"]) (sc := defScope (topS 8)) (by decide +kernel))
            (fun _ _ _ _ _ => pg_name (i := 1) scNames.nd rfl (Or.inl rfl)) (fun _ _ _ _ _ => pts_nil) (fun _ _ _ _ _ => pe_cx (E := fun _ => E0) GN hr (by decide) (by rfl) at0 (pa_cons (pv 1) pa_nil))) pa_nil))
          (pe_one (pe_cmpR op_eq (pe_lenTx rfl (by rfl) B.len (by rfl) hset (pv 0)) (pe_callB call_len_seq (by rfl) B.len PySem.boot_len (pa_cons (pv 0) pa_nil)) (nomark _))))), ?_⟩
      refine s_ret (v := .bl (namesS ns)) (ev_andV (ev_all (bs := ns.map nameS) (el_lcLy (ev_var rfl) (sq_of hu1) hlen (fun _ => rfl) hlen2 (fun i x y H2 e2 hx hy => each hx hy rfl)))
        (fun _ => ev_differ (ev_var rfl) hu hl (ev_is (ev_cb (ea_cons (ev_var rfl) ea_nil) (fun H2 e2 Q' q' => ⟨u, _, rfl, .inl (sq_of (e2 _ _ hu1)), q' H2 (Ex.refl H2)⟩)) (by rw [hbs])))) q
    · refine ⟨_, pss_one (ps_ret (pe_and (pe_callB (cr_all rfl) (by rfl) B.all (by decide +kernel) (pa_cons
          (pe_lc (own := [("text", 1)]) (g := gName 1) (tt := tYes) (te := tCallS (spPred nameV) (fun _ => E0) (tCons (tVar 1) tNil)) rfl scNames.nd (pi_tup (pv 0)) (blkOk_by (own := [("text", 1)]) (N := ["texts", "text"]) (sc := defScope (topS 8)) (by decide +kernel))
            (fun _ _ _ _ _ => pg_name (i := 1) scNames.nd rfl (Or.inl rfl)) (fun _ _ _ _ _ => pts_nil) (fun _ _ _ _ _ => pe_cx (E := fun _ => E0) GN hr (by decide) (by rfl) at0 (pa_cons (pv 1) pa_nil))) pa_nil))
          (pe_one (pe_cmpR op_eq (pe_lenTx rfl (by rfl) B.len (by rfl) hset (pv 0)) (pe_callB call_len_seq (by rfl) B.len PySem.boot_len (pa_cons (pv 0) pa_nil)) (nomark _))))), ?_⟩
      refine s_ret (v := .bl (namesS ns)) (ev_andV (ev_all (bs := ns.map nameS) (el_lcTy (ev_var rfl) (st_of hu1) hlen (fun _ => rfl) hlen2 (fun i x y H2 e2 hx hy => each hx hy rfl)))
        (fun _ => ev_differ (ev_var rfl) hu hl (ev_is (ev_cb (ea_cons (ev_var rfl) ea_nil) (fun H2 e2 Q' q' => ⟨u, _, rfl, .inr (st_of (e2 _ _ hu1)), q' H2 (Ex.refl H2)⟩)) (by rw [hbs])))) q
end
end Fs

set_option Elab.async false
set_option linter.all false
set_option maxRecDepth 100000
set_option maxHeartbeats 2000000
namespace Fs
open PySem L2 Evl FsE FsC FsR FsT
def Opd.ok : Opd → Prop
  | .int _ => True
  | .nm z => z.length ≤ 40000
theorem Opd.opv {o : Opd} (h : o.ok) : OpV o.v := by
  cases o with
  | int i => exact True.intro
  | nm z => exact h
/-! what is refused -/
def badNew (z : Str) (k : Int) (r : Pr) : Option Str := if nameS z = true then (if seatsV (.int k) = true then badInit (.new z k r) else some "seats") else some "name"
def badWhen (l r : Opd) (y n : Pr) : Option Str := if operandV l.v = true then (if operandV r.v = true then badInit (.cond l r y n) else some "right") else some "left"
def opsOk (ops : List Opd) : Bool := decide (((ops.length : Nat) : Int) ≤ 4) && (ops.map fun o => operandV o.v).all id
def badCall (z : Str) (ops : List Opd) : Option Str := if nameS z = true then (if opsOk ops = true then badInit (.call z ops) else some "operands") else some "name"
/-! the promises -/
def spStop (C CB : Addr) : Sp := fun vs H Q E => vs = [] ∧ Made C CB none (.choice .nil) H Q E
def spNew (C CB : Addr) : Sp := fun vs H Q E => ∃ (z : Str) (k : Int) (b : Addr) (r : Pr), vs = [.str z, .int k, .ref b] ∧ z.length ≤ 40000 ∧ PrAt C H b r ∧ Made C CB (badNew z k r) (.new z k r) H Q E
def spWhen (C CB : Addr) : Sp := fun vs H Q E => ∃ (l r : Opd) (b c : Addr) (y n : Pr), vs = [l.v, r.v, .ref b, .ref c] ∧ l.ok ∧ r.ok ∧ PrAt C H b y ∧ PrAt C H c n ∧ Made C CB (badWhen l r y n) (.cond l r y n) H Q E
/-- a list or a tuple of the operands -/
def OpsAt (K : PySem.W.Frag) (H : Hp) (u : Addr) (ops : List Opd) : Prop := H u = some (.lst (ops.map Opd.v)) ∨ H u = some (.tup (ops.map Opd.v))
def spCall (K : PySem.W.Frag) (C CB : Addr) : Sp := fun vs H Q E => ∃ (z : Str) (u : Addr) (ops : List Opd), vs = [.str z, .ref u] ∧ z.length ≤ 40000 ∧ OpsAt K H u ops ∧ ops.length ≤ 90 ∧ (∀ o ∈ ops, o.ok) ∧ Made C CB (badCall z ops) (.call z ops) H Q E
/-- what the makers ask -/
structure MakT (P : Program) (w : World) (K : PySem.W.Frag) (mg : Str → Option Value) (base : Heap) (C CB : Addr) (k : Nat) : Prop where
  make : MakX P w K mg base (L2.CX P w) k "Process" C (spInit C CB)
  dem : CalX P w K mg base (L2.CX P w) k "demand" (spDemand CB)
  name : CalX P w K mg base CX0 1 "is_name" (spPred nameV)
  seats : CalX P w K mg base CX0 2 "is_seats" (spPred seatsV)
  operand : CalX P w K mg base CX0 3 "is_operand" (spPred operandV)
  int : CalX P w K mg base CX0 1 "is_int" (spPred intV)
  names : CalX P w K mg base CX0 2 "are_names" spNames
  mops : GC mg "MOST_OPERANDS" (.int 4)
  tuple : mg "tuple" = none
  len : mg "len" = none
  all : mg "all" = none
  hk : 3 ≤ k
section
variable {P : Program} {w : World} {K : PySem.W.Frag} {mg : Str → Option Value} {base : Heap} {C CB : Addr} {k : Nat}
theorem scStop : FnScope [] [] (defScope (inClass (topS 26) 1)) := ⟨rfl, rfl, rfl, by decide +kernel, rfl, by decide +kernel, by decide +kernel⟩
theorem ok_stop {f : Addr} {fd : FuncData} (F : Fun K "stop" "Process.stop" (inClass (topS 26) 1) f fd) (M : MakT P w K mg base C CB k) : FnOk P w K mg base (L2.CX P w) (k + 1 + 1) f fd [] (spStop C CB) := by
  refine F.okX scStop (fun vs H Q E h => ?_) (fun cdv A outer s H vs Q E hr h => ?_)
  · obtain ⟨rfl, _⟩ := h
    rfl
  · obtain ⟨rfl, m⟩ := h
    refine ⟨_, pss_one (ps_ret (pe_mx M.make hr (Nat.le_refl _) (by rfl) (passes_call (W := fun cls d _ H => E cls d H) (takes_of rfl rfl rfl rfl) (fun _ _ _ _ h => h)) (pa_cons pe_str (pa_cons (pe_tup pa_nil) pa_nil)))), ?_⟩
    exact ret_make (p := .choice .nil) ev_c (EvP.of (ps := []) (eu_tup ea_nil (by decide)) (by decide) rfl) m
theorem scNew : FnScope ["name", "seats", "rest"] ["name", "seats", "rest"] (defScope (inClass (topS 26) 3)) := ⟨rfl, rfl, rfl, by decide +kernel, rfl, by decide +kernel, by decide +kernel⟩
theorem Made.bad {o : Option Str} {f : Str} {p : Pr} {H : Hp} {Q : VK} {E : XK} (m : Made C CB o p H Q E) (h : o = some f) : Bad CB f H E := m.2 f h
theorem ok_new {f : Addr} {fd : FuncData} (F : Fun K "new" "Process.new" (inClass (topS 26) 3) f fd) (M : MakT P w K mg base C CB k) : FnOk P w K mg base (L2.CX P w) (k + 1 + 1) f fd ["name", "seats", "rest"] (spNew C CB) := by
  refine F.okX scNew (fun vs H Q E h => ?_) (fun cdv A outer s H vs Q E hr h => ?_)
  · obtain ⟨z, kk, b, r, rfl, _⟩ := h
    rfl
  · obtain ⟨z, kk, b, r, rfl, hz, hb, m⟩ := h
    have h3 := M.hk
    refine ⟨_, pss_cons (ps_expr (pe_cx (E := WE (fun cls d _ H => E cls d H)) M.dem hr (Nat.le_succ _) (by rfl) (fun σ => passAt (takes_of rfl rfl rfl rfl) σ) (pa_cons (pe_cx (E := fun _ => E0) M.name hr (by omega) (by rfl) at0 (pa_cons (pv 0) pa_nil)) (pa_cons pe_str pa_nil))))
      (pss_cons (ps_expr (pe_cx (E := WE (fun cls d _ H => E cls d H)) M.dem hr (Nat.le_succ _) (by rfl) (fun σ => passAt (takes_of rfl rfl rfl rfl) σ) (pa_cons (pe_cx (E := fun _ => E0) M.seats hr (by omega) (by rfl) at0 (pa_cons (pv 1) pa_nil)) (pa_cons pe_str pa_nil))))
      (pss_one (ps_ret (pe_mx M.make hr (Nat.le_refl _) (by rfl) (passes_call (W := fun cls d _ H => E cls d H) (takes_of rfl rfl rfl rfl) (fun _ _ _ _ h => h)) (pa_cons pe_str (pa_cons (pe_tup (pa_cons (pv 0) (pa_cons (pv 1) (pa_cons (pv 2) pa_nil)))) pa_nil)))))), ?_⟩
    refine q_demand (by decide +kernel) (ev_cx (ea_cons (ev_var rfl) ea_nil) (sp_pred (f := nameV) (v := .str z) hz)) (fun h1 H1 e1 => ?_) (fun h1 => m.bad (by unfold badNew; rw [if_neg (by rw [show nameS z = false from h1]; decide)]))
    refine q_demand (by decide +kernel) (ev_cx (ea_cons (ev_var rfl) ea_nil) (sp_pred (f := seatsV) (v := .int kk) True.intro)) (fun h2 H2 e2 => ?_) (fun h2 => (m.ex e1).bad (by unfold badNew; rw [if_pos (show nameS z = true from h1), if_neg (by rw [h2]; decide)]))
    have e : badNew z kk r = badInit (.new z kk r) := by unfold badNew; rw [if_pos (show nameS z = true from h1), if_pos h2]
    rw [e] at m
    exact ret_make (p := .new z kk r) ev_c (EvP.of (eu_tup (ea_cons (ev_var rfl) (ea_cons (ev_var rfl) (ea_cons (ev_var rfl) ea_nil))) (by show 3 ≤ 100000; decide)) (by show 3 ≤ 100; decide) ⟨b, rfl, hb.ex (e1.trans e2)⟩) (m.ex (e1.trans e2))
theorem scWhen : FnScope ["left", "right", "yes", "no"] ["left", "right", "yes", "no"] (defScope (inClass (topS 26) 4)) := ⟨rfl, rfl, rfl, by decide +kernel, rfl, by decide +kernel, by decide +kernel⟩
theorem ok_when {f : Addr} {fd : FuncData} (F : Fun K "when" "Process.when" (inClass (topS 26) 4) f fd) (M : MakT P w K mg base C CB k) : FnOk P w K mg base (L2.CX P w) (k + 1 + 1) f fd ["left", "right", "yes", "no"] (spWhen C CB) := by
  refine F.okX scWhen (fun vs H Q E h => ?_) (fun cdv A outer s H vs Q E hr h => ?_)
  · obtain ⟨l, r, b, c, y, n, rfl, _⟩ := h
    rfl
  · obtain ⟨l, r, b, c, y, n, rfl, hl, hrr, hb, hc, m⟩ := h
    have h3 := M.hk
    refine ⟨_, pss_cons (ps_expr (pe_cx (E := WE (fun cls d _ H => E cls d H)) M.dem hr (Nat.le_succ _) (by rfl) (fun σ => passAt (takes_of rfl rfl rfl rfl) σ) (pa_cons (pe_cx (E := fun _ => E0) M.operand hr (by omega) (by rfl) at0 (pa_cons (pv 0) pa_nil)) (pa_cons pe_str pa_nil))))
      (pss_cons (ps_expr (pe_cx (E := WE (fun cls d _ H => E cls d H)) M.dem hr (Nat.le_succ _) (by rfl) (fun σ => passAt (takes_of rfl rfl rfl rfl) σ) (pa_cons (pe_cx (E := fun _ => E0) M.operand hr (by omega) (by rfl) at0 (pa_cons (pv 1) pa_nil)) (pa_cons pe_str pa_nil))))
      (pss_one (ps_ret (pe_mx M.make hr (Nat.le_refl _) (by rfl) (passes_call (W := fun cls d _ H => E cls d H) (takes_of rfl rfl rfl rfl) (fun _ _ _ _ h => h)) (pa_cons pe_str (pa_cons (pe_tup (pa_cons (pv 0) (pa_cons (pv 1) (pa_cons (pv 2) (pa_cons (pv 3) pa_nil))))) pa_nil)))))), ?_⟩
    refine q_demand (by decide +kernel) (ev_cx (ea_cons (ev_var rfl) ea_nil) (sp_pred (f := operandV) (Opd.opv hl))) (fun h1 H1 e1 => ?_) (fun h1 => m.bad (by unfold badWhen; rw [if_neg (by rw [h1]; decide)]))
    refine q_demand (by decide +kernel) (ev_cx (ea_cons (ev_var rfl) ea_nil) (sp_pred (f := operandV) (Opd.opv hrr))) (fun h2 H2 e2 => ?_) (fun h2 => (m.ex e1).bad (by unfold badWhen; rw [if_pos h1, if_neg (by rw [h2]; decide)]))
    have e : badWhen l r y n = badInit (.cond l r y n) := by unfold badWhen; rw [if_pos h1, if_pos h2]
    rw [e] at m
    exact ret_make (p := .cond l r y n) ev_c (EvP.of (eu_tup (ea_cons (ev_var rfl) (ea_cons (ev_var rfl) (ea_cons (ev_var rfl) (ea_cons (ev_var rfl) ea_nil)))) (by show 4 ≤ 100000; decide)) (by show 4 ≤ 100; decide) ⟨b, c, rfl, hb.ex (e1.trans e2), hc.ex (e1.trans e2)⟩) (m.ex (e1.trans e2))
theorem scCall : FnScope ["name", "operands", "allowed", "part"] ["name", "operands"] (defScope (inClass (topS 26) 5)) := ⟨rfl, rfl, rfl, by decide +kernel, rfl, by decide +kernel, by decide +kernel⟩
theorem evp_call {σ : L2.St} {H : Hp} {z : Str} {u : Addr} {ops : List Opd} (h0 : σ[0]? = some (some (.str z))) (h1 : σ[1]? = some (some (.ref u))) (hu : OpsAt K H u ops) :
    EvP C (tTup (tCons (tVar 0) (tCons (tCB (fun xs H Q => ∃ p ys, xs = [V.ref p] ∧ ((SqL K H p ys ∧ ∀ l, H l = none → Q (.ref l) (upd H l (.tup ys))) ∨ SqT K H p ys ∧ Q (.ref p) H)) (tCons (tVar 1) tNil)) tNil))) σ H (.call z ops) := fun H1 e Q q => by
  rcases hu with hu | hu
  · refine ⟨_, h0, _, h1, u, ops.map Opd.v, rfl, .inl ⟨sq_of (e _ _ hu), fun l hl => ⟨(by show 2 ≤ sizeLine; decide), fun p hp => ?_⟩⟩⟩
    have hpl : l ≠ p := fun z => by rw [← z, upd_same] at hp; cases hp
    refine q p _ [.str z, .ref l] (fresh_back (Ex.new hl) hp) ((Ex.new hl).trans (Ex.new hp)) upd_same (by show 2 ≤ 100; decide) ⟨l, rfl, ?_⟩
    rw [upd_ne hpl]
    exact upd_same
  · refine ⟨_, h0, _, h1, u, ops.map Opd.v, rfl, .inr ⟨st_of (e _ _ hu), (by show 2 ≤ sizeLine; decide), fun p hp => ?_⟩⟩
    exact q p _ [.str z, .ref u] hp (Ex.new hp) upd_same (by show 2 ≤ 100; decide) ⟨u, rfl, Ex.new hp _ _ (e _ _ hu)⟩
theorem OpsAt.ex {H H' : Hp} {u : Addr} {ops : List Opd} (e : Ex H H') (h : OpsAt K H u ops) : OpsAt K H' u ops := h.imp (e _ _) (e _ _)
theorem ops_at {H : Hp} {ops : List Opd} (ho : ∀ o ∈ ops, o.ok) {i : Nat} {x y : V} (hx : (ops.map Opd.v)[i]? = some x) (hy : ((ops.map fun o => operandV o.v).map V.bl)[i]? = some y) : OpV x ∧ y = .bl (operandV x) := by
  rw [List.map_map, List.getElem?_map] at hy
  rw [List.getElem?_map] at hx
  cases hq : ops[i]? with
  | none =>
    rw [hq] at hx
    cases hx
  | some o =>
    rw [hq] at hx hy
    have ex : o.v = x := Option.some.inj hx
    have ey : V.bl (operandV o.v) = y := Option.some.inj hy
    subst ex
    exact ⟨Opd.opv (ho o (List.mem_of_getElem? hq)), ey.symm⟩
theorem ok_call {f : Addr} {fd : FuncData} (F : Fun K "call" "Process.call" (inClass (topS 26) 5) f fd) (M : MakT P w K mg base C CB k) : FnOk P w K mg base (L2.CX P w) (k + 1 + 1) f fd ["name", "operands"] (spCall K C CB) := by
  refine F.okX scCall (fun vs H Q E h => ?_) (fun cdv A outer s H vs Q E hr h => ?_)
  · obtain ⟨z, u, ops, rfl, _⟩ := h
    rfl
  · obtain ⟨z, u, ops, rfl, hz, hu, hl, ho, m⟩ := h
    have h3 := M.hk
    have bad1 : nameV (.str z) = false → Bad CB "name" H E := fun h1 => m.bad (by unfold badCall; rw [if_neg (by rw [show nameS z = false from h1]; decide)])
    have bad2 : nameV (.str z) = true → ∀ H1, Ex H H1 → opsOk ops = false → Bad CB "operands" H1 E := fun h1 H1 e1 h2 => (m.ex e1).bad (by unfold badCall; rw [if_pos (show nameS z = true from h1), if_neg (by rw [h2]; decide)])
    have good : nameV (.str z) = true → opsOk ops = true → ∀ H2, Ex H H2 → Made C CB (badInit (.call z ops)) (.call z ops) H2 Q E := fun h1 h2 H2 e2 => by
      have e : badCall z ops = badInit (.call z ops) := by unfold badCall; rw [if_pos (show nameS z = true from h1), if_pos h2]
      rw [e] at m
      exact m.ex e2
    have hlen : (ops.map Opd.v).length ≤ 40000 := by rw [List.length_map]; omega
    have hlen2 : ((ops.map fun o => operandV o.v).map V.bl).length = (ops.map Opd.v).length := by simp
    have hbs : ((((ops.map Opd.v).length : Nat) : Int)) = ((ops.length : Nat) : Int) := by rw [List.length_map]
    rcases hu with hu | hu
    · refine ⟨_, pss_cons (ps_expr (pe_cx (E := WE (fun cls d _ H => E cls d H)) M.dem hr (Nat.le_succ _) (by rfl) (fun σ => passAt (takes_of rfl rfl rfl rfl) σ) (pa_cons (pe_cx (E := fun _ => E0) M.name hr (by omega) (by rfl) at0 (pa_cons (pv 0) pa_nil)) (pa_cons pe_str pa_nil))))
        (pss_cons (ps_set (i := 2) scCall.nd rfl (Or.inl rfl) (pe_and (pe_cmpR op_le (pe_callB call_len_seq (by rfl) M.len PySem.boot_len (pa_cons (pv 1) pa_nil)) (C8.pe_gc (by rfl) M.mops) (nomark _)) (pe_one (pe_callB (cr_all rfl) (by rfl) M.all (by decide +kernel) (pa_cons
          (pe_lc (own := [("part", 3)]) (g := gName 3) (tt := tYes) (te := tCallS (spPred operandV) (fun _ => E0) (tCons (tVar 3) tNil)) rfl scCall.nd (pi_list (pv 1)) (blkOk_by (own := [("part", 3)]) (N := ["name", "operands", "allowed", "part"]) (sc := defScope (inClass (topS 26) 5)) (by decide +kernel))
            (fun _ _ _ _ _ => pg_name (i := 3) scCall.nd rfl (Or.inl rfl)) (fun _ _ _ _ _ => pts_nil) (fun _ _ _ _ _ => pe_cx (E := fun _ => E0) M.operand hr (by omega) (by rfl) at0 (pa_cons (pv 3) pa_nil))) pa_nil)))))
        (pss_cons (ps_expr (pe_cx (E := WE (fun cls d _ H => E cls d H)) M.dem hr (Nat.le_succ _) (by rfl) (fun σ => passAt (takes_of rfl rfl rfl rfl) σ) (pa_cons (pv 2) (pa_cons pe_str pa_nil))))
        (pss_one (ps_ret (pe_mx M.make hr (Nat.le_refl _) (by rfl) (passes_call (W := fun cls d _ H => E cls d H) (takes_of rfl rfl rfl rfl) (fun _ _ _ _ h => h)) (pa_cons pe_str (pa_cons (pe_tup (pa_cons (pv 0) (pa_cons (pe_callTy call_tuple_of (by rfl) M.tuple (by decide +kernel) (pa_cons (pv 1) pa_nil)) pa_nil))) pa_nil))))))), ?_⟩
      refine q_demand (by decide +kernel) (ev_cx (ea_cons (ev_var rfl) ea_nil) (sp_pred (f := nameV) (v := .str z) hz)) (fun h1 H1 e1 => ?_) bad1
      have hu1 := e1 _ _ hu
      refine q_asg (v := .bl (opsOk ops)) (ev_andV (ev_is (ev_op (ev_is (ev_cb (ea_cons (ev_var rfl) ea_nil) (fun H2 e2 Q' q' => ⟨u, _, rfl, .inl (sq_of (e2 _ _ hu1)), q' H2 (Ex.refl H2)⟩)) (by rw [hbs])) ev_c rv_I0) rfl) (fun _ => ev_all (bs := ops.map fun o => operandV o.v)
        (el_lcLy (ev_var rfl) (sq_of hu1) hlen (fun _ => rfl) hlen2 (fun i x y H2 e2 hx hy => ?_)))) (fun H2 e2 => ?_)
      · obtain ⟨a1, a2⟩ := ops_at (H := H) ho hx hy
        rw [a2]
        exact ev_cx (ea_cons (ev_var rfl) ea_nil) (sp_pred a1)
      · refine q_demand (by decide +kernel) (ev_var rfl) (fun h2 H3 e3 => ?_) (bad2 h1 H2 (e1.trans e2))
        exact ret_make (p := .call z ops) ev_c (evp_call rfl rfl (OpsAt.ex ((e1.trans e2).trans e3) (.inl hu))) (good h1 h2 H3 ((e1.trans e2).trans e3))
    · refine ⟨_, pss_cons (ps_expr (pe_cx (E := WE (fun cls d _ H => E cls d H)) M.dem hr (Nat.le_succ _) (by rfl) (fun σ => passAt (takes_of rfl rfl rfl rfl) σ) (pa_cons (pe_cx (E := fun _ => E0) M.name hr (by omega) (by rfl) at0 (pa_cons (pv 0) pa_nil)) (pa_cons pe_str pa_nil))))
        (pss_cons (ps_set (i := 2) scCall.nd rfl (Or.inl rfl) (pe_and (pe_cmpR op_le (pe_callB call_len_seq (by rfl) M.len PySem.boot_len (pa_cons (pv 1) pa_nil)) (C8.pe_gc (by rfl) M.mops) (nomark _)) (pe_one (pe_callB (cr_all rfl) (by rfl) M.all (by decide +kernel) (pa_cons
          (pe_lc (own := [("part", 3)]) (g := gName 3) (tt := tYes) (te := tCallS (spPred operandV) (fun _ => E0) (tCons (tVar 3) tNil)) rfl scCall.nd (pi_tup (pv 1)) (blkOk_by (own := [("part", 3)]) (N := ["name", "operands", "allowed", "part"]) (sc := defScope (inClass (topS 26) 5)) (by decide +kernel))
            (fun _ _ _ _ _ => pg_name (i := 3) scCall.nd rfl (Or.inl rfl)) (fun _ _ _ _ _ => pts_nil) (fun _ _ _ _ _ => pe_cx (E := fun _ => E0) M.operand hr (by omega) (by rfl) at0 (pa_cons (pv 3) pa_nil))) pa_nil)))))
        (pss_cons (ps_expr (pe_cx (E := WE (fun cls d _ H => E cls d H)) M.dem hr (Nat.le_succ _) (by rfl) (fun σ => passAt (takes_of rfl rfl rfl rfl) σ) (pa_cons (pv 2) (pa_cons pe_str pa_nil))))
        (pss_one (ps_ret (pe_mx M.make hr (Nat.le_refl _) (by rfl) (passes_call (W := fun cls d _ H => E cls d H) (takes_of rfl rfl rfl rfl) (fun _ _ _ _ h => h)) (pa_cons pe_str (pa_cons (pe_tup (pa_cons (pv 0) (pa_cons (pe_callTy call_tuple_of (by rfl) M.tuple (by decide +kernel) (pa_cons (pv 1) pa_nil)) pa_nil))) pa_nil))))))), ?_⟩
      refine q_demand (by decide +kernel) (ev_cx (ea_cons (ev_var rfl) ea_nil) (sp_pred (f := nameV) (v := .str z) hz)) (fun h1 H1 e1 => ?_) bad1
      have hu1 := e1 _ _ hu
      refine q_asg (v := .bl (opsOk ops)) (ev_andV (ev_is (ev_op (ev_is (ev_cb (ea_cons (ev_var rfl) ea_nil) (fun H2 e2 Q' q' => ⟨u, _, rfl, .inr (st_of (e2 _ _ hu1)), q' H2 (Ex.refl H2)⟩)) (by rw [hbs])) ev_c rv_I0) rfl) (fun _ => ev_all (bs := ops.map fun o => operandV o.v)
        (el_lcTy (ev_var rfl) (st_of hu1) hlen (fun _ => rfl) hlen2 (fun i x y H2 e2 hx hy => ?_)))) (fun H2 e2 => ?_)
      · obtain ⟨a1, a2⟩ := ops_at (H := H) ho hx hy
        rw [a2]
        exact ev_cx (ea_cons (ev_var rfl) ea_nil) (sp_pred a1)
      · refine q_demand (by decide +kernel) (ev_var rfl) (fun h2 H3 e3 => ?_) (bad2 h1 H2 (e1.trans e2))
        exact ret_make (p := .call z ops) ev_c (evp_call rfl rfl (OpsAt.ex ((e1.trans e2).trans e3) (.inr hu))) (good h1 h2 H3 ((e1.trans e2).trans e3))
def badOffer (z : Str) (s m : Int) (op : Opd) (ns : List Str) (r : Pr) : Option Str :=
  if nameS z = true then (if seatsV (.int m) = true then (if (decide (0 ≤ s) && decide (s < m)) = true then (if operandV op.v = true then (if (decide ((ns.length : Int) = m - 1) && namesS ns) = true then badInit (.choice (.cons z s m op ns r .nil)) else some "names") else some "operand") else some "seat") else some "seats") else some "channel"
def spOffer (C CB : Addr) : Sp := fun vs H Q E => ∃ (z : Str) (s m : Int) (op : Opd) (u : Addr) (ns : List Str) (b : Addr) (r : Pr), vs = [.str z, .int s, .int m, op.v, .ref u, .ref b] ∧ z.length ≤ 40000 ∧ op.ok ∧ NmsAt H u ns ∧ ns.length ≤ 90 ∧ (∀ y ∈ ns, y.length ≤ 40000) ∧ PrAt C H b r ∧
  Made C CB (badOffer z s m op ns r) (.choice (.cons z s m op ns r .nil)) H Q E
theorem scOffer : FnScope ["channel", "seat", "seats", "operand", "names", "rest"] ["channel", "seat", "seats", "operand", "names", "rest"] (defScope (inClass (topS 26) 2)) := ⟨rfl, rfl, rfl, by decide +kernel, rfl, by decide +kernel, by decide +kernel⟩
/-- the parts: one offer -/
theorem evp_offer {σ : L2.St} {H : Hp} {z : Str} {s m : Int} {op : Opd} {u b : Addr} {ns : List Str} {r : Pr} (h0 : σ[0]? = some (some (.str z))) (h1 : σ[1]? = some (some (.int s))) (h2 : σ[2]? = some (some (.int m))) (h3 : σ[3]? = some (some op.v)) (h4 : σ[4]? = some (some (.ref u))) (h5 : σ[5]? = some (some (.ref b)))
    (hu : NmsAt H u ns) (hb : PrAt C H b r) : EvP C (tTup (tCons (tTup (tCons (tVar 0) (tCons (tVar 1) (tCons (tVar 2) (tCons (tVar 3) (tCons (tCB (fun xs H Q => ∃ p ys, xs = [V.ref p] ∧ ((SqL K H p ys ∧ ∀ l, H l = none → Q (.ref l) (upd H l (.tup ys))) ∨ SqT K H p ys ∧ Q (.ref p) H)) (tCons (tVar 4) tNil)) (tCons (tVar 5) tNil)))))))
      tNil)) σ H (.choice (.cons z s m op ns r .nil)) := fun H1 e Q q => by
  have one : ∀ (l : Addr) (H2 : Hp), Ex H1 H2 → H2 l = some (.tup (ns.map V.str)) → ∀ o : Addr, H2 o = none → ∀ p : Addr, upd H2 o (.tup [.str z, .int s, .int m, op.v, .ref l, .ref b]) p = none → Q (.ref p) (upd (upd H2 o (.tup [.str z, .int s, .int m, op.v, .ref l, .ref b])) p (.tup [.ref o])) := fun l H2 e2 hl o ho p hp => by
    have e3 : Ex H2 (upd (upd H2 o (.tup [.str z, .int s, .int m, op.v, .ref l, .ref b])) p (.tup [.ref o])) := (Ex.new ho).trans (Ex.new hp)
    refine q p _ [.ref o] (fresh_back (e2.trans (Ex.new ho)) hp) (e2.trans e3) upd_same (by show 1 ≤ 100; decide) ?_
    show OfsAt C _ [.ref o] (.cons z s m op ns r .nil)
    unfold OfsAt
    exact ⟨o, l, b, [], rfl, Ex.new hp _ _ upd_same, e3 _ _ hl, hb.ex ((e.trans e2).trans e3), by unfold OfsAt; rfl⟩
  rcases hu with hu | hu
  · exact ⟨_, h0, _, h1, _, h2, _, h3, _, h4, u, ns.map V.str, rfl, .inl ⟨sq_of (e _ _ hu), fun l hl => ⟨_, h5, by show 6 ≤ sizeLine; decide, fun o ho => ⟨by show 1 ≤ sizeLine; decide, fun p hp => one l _ (Ex.new hl) upd_same o ho p hp⟩⟩⟩⟩
  · exact ⟨_, h0, _, h1, _, h2, _, h3, _, h4, u, ns.map V.str, rfl, .inr ⟨st_of (e _ _ hu), _, h5, by show 6 ≤ sizeLine; decide, fun o ho => ⟨by show 1 ≤ sizeLine; decide, fun p hp => one u _ (Ex.refl _) (e _ _ hu) o ho p hp⟩⟩⟩
theorem ok_offer {f : Addr} {fd : FuncData} (F : Fun K "offer" "Process.offer" (inClass (topS 26) 2) f fd) (M : MakT P w K mg base C CB k) : FnOk P w K mg base (L2.CX P w) (k + 1 + 1) f fd ["channel", "seat", "seats", "operand", "names", "rest"] (spOffer C CB) := by
  refine F.okX scOffer (fun vs H Q E h => ?_) (fun cdv A outer s H vs Q E hr h => ?_)
  · obtain ⟨z, s', m, op, u, ns, b, r, rfl, _⟩ := h
    rfl
  · obtain ⟨z, s', m, op, u, ns, b, r, rfl, hz, ho, hu, hl, hy, hb, md⟩ := h
    have h3 := M.hk
    have hlen : ∀ {H2 : Hp}, Ex H H2 → Ev (tCB (fun xs H Q => ∃ a ys, xs = [V.ref a] ∧ (SqL K H a ys ∨ SqT K H a ys) ∧ Q (.int (ys.length : Nat)) H) (tCons (tVar 4) tNil)) [some (.str z), some (.int s'), some (.int m), some op.v, some (.ref u), some (.ref b)] H2 (.int (ns.length : Int)) := fun e2 =>
      ev_is (ev_cb (ea_cons (ev_var rfl) ea_nil) (fun H5 e5 Q' q' => ⟨u, _, rfl, (hu.ex (e2.trans e5)).sq, q' H5 (Ex.refl H5)⟩)) (by rw [List.length_map])
    refine ⟨_, pss_cons (ps_expr (pe_cx (E := WE (fun cls d _ H => E cls d H)) M.dem hr (Nat.le_succ _) (by rfl) (fun σ => passAt (takes_of rfl rfl rfl rfl) σ) (pa_cons (pe_cx (E := fun _ => E0) M.name hr (by omega) (by rfl) at0 (pa_cons (pv 0) pa_nil)) (pa_cons pe_str pa_nil))))
      (pss_cons (ps_expr (pe_cx (E := WE (fun cls d _ H => E cls d H)) M.dem hr (Nat.le_succ _) (by rfl) (fun σ => passAt (takes_of rfl rfl rfl rfl) σ) (pa_cons (pe_cx (E := fun _ => E0) M.seats hr (by omega) (by rfl) at0 (pa_cons (pv 2) pa_nil)) (pa_cons pe_str pa_nil))))
      (pss_cons (ps_expr (pe_cx (E := WE (fun cls d _ H => E cls d H)) M.dem hr (Nat.le_succ _) (by rfl) (fun σ => passAt (takes_of rfl rfl rfl rfl) σ) (pa_cons (pe_and (pe_cx (E := fun _ => E0) M.int hr (by omega) (by rfl) at0 (pa_cons (pv 1) pa_nil)) (pe_one (pe_chain op_le op_lt pe_int (pv 1) (pv 2)))) (pa_cons pe_str pa_nil))))
      (pss_cons (ps_expr (pe_cx (E := WE (fun cls d _ H => E cls d H)) M.dem hr (Nat.le_succ _) (by rfl) (fun σ => passAt (takes_of rfl rfl rfl rfl) σ) (pa_cons (pe_cx (E := fun _ => E0) M.operand hr (by omega) (by rfl) at0 (pa_cons (pv 3) pa_nil)) (pa_cons pe_str pa_nil))))
      (pss_cons (ps_expr (pe_cx (E := WE (fun cls d _ H => E cls d H)) M.dem hr (Nat.le_succ _) (by rfl) (fun σ => passAt (takes_of rfl rfl rfl rfl) σ) (pa_cons (pe_and (pe_cmpR op_eq (pe_callB call_len_seq (by rfl) M.len PySem.boot_len (pa_cons (pv 4) pa_nil)) (pe_op op_sub (pv 2) pe_int) (nomark _)) (pe_one (pe_cx (E := fun _ => E0) M.names hr (by omega) (by rfl) at0 (pa_cons (pv 4) pa_nil)))) (pa_cons pe_str pa_nil))))
      (pss_one (ps_ret (pe_mx M.make hr (Nat.le_refl _) (by rfl) (passes_call (W := fun cls d _ H => E cls d H) (takes_of rfl rfl rfl rfl) (fun _ _ _ _ h => h)) (pa_cons pe_str (pa_cons (pe_tup (pa_cons (pe_tup (pa_cons (pv 0) (pa_cons (pv 1) (pa_cons (pv 2) (pa_cons (pv 3) (pa_cons (pe_callTy call_tuple_of (by rfl) M.tuple (by decide +kernel) (pa_cons (pv 4) pa_nil)) (pa_cons (pv 5) pa_nil))))))) pa_nil)) pa_nil))))))))), ?_⟩
    refine q_demand (by decide +kernel) (ev_cx (ea_cons (ev_var rfl) ea_nil) (sp_pred (f := nameV) (v := .str z) hz)) (fun h1 H1 e1 => ?_) (fun h1 => md.bad (by unfold badOffer; rw [if_neg (by rw [show nameS z = false from h1]; decide)]))
    have g1 : nameS z = true := h1
    refine q_demand (by decide +kernel) (ev_cx (ea_cons (ev_var rfl) ea_nil) (sp_pred (f := seatsV) (v := .int m) True.intro)) (fun h2 H2 e2 => ?_) (fun h2 => (md.ex e1).bad (by unfold badOffer; rw [if_pos g1, if_neg (by rw [h2]; decide)]))
    have x2 := e1.trans e2
    refine q_demand (b := decide (0 ≤ s') && decide (s' < m)) (by decide +kernel) (ev_andV (a := true) (ev_cx (ea_cons (ev_var rfl) ea_nil) (sp_pred (f := intV) (v := .int s') True.intro)) (fun _ => ev_chain ev_c (ev_var rfl) rv_I0 (fun _ => ev_var rfl) (fun _ => rv_I0))) (fun h4 H3 e3 => ?_) (fun h4 => (md.ex x2).bad (by unfold badOffer; rw [if_pos g1, if_pos h2, if_neg (by rw [h4]; decide)]))
    have x3 := x2.trans e3
    refine q_demand (by decide +kernel) (ev_cx (ea_cons (ev_var rfl) ea_nil) (sp_pred (f := operandV) (v := op.v) (Opd.opv ho))) (fun h5 H4 e4 => ?_) (fun h5 => (md.ex x3).bad (by unfold badOffer; rw [if_pos g1, if_pos h2, if_pos h4, if_neg (by rw [h5]; decide)]))
    have x4 := x3.trans e4
    refine q_demand (b := decide ((ns.length : Int) = m - 1) && namesS ns) (by decide +kernel) (ev_andV (ev_is (ev_op (hlen x4) (ev_op (ev_var rfl) ev_c rv_I0) (rv_eq rfl)) (congrArg V.bl (decide_eq_decide.mpr ⟨fun z => (V.int.inj z), fun z => congrArg V.int z⟩))) (fun _ => ev_cx (ea_cons (ev_var rfl) ea_nil) (fun H5 e5 Q' q' E' => ⟨u, ns, rfl, hu.ex (x4.trans e5), hl, hy, fun H6 e6 => q' H6 e6⟩)))
      (fun h6 H5 e5 => ?_) (fun h6 => (md.ex x4).bad (by unfold badOffer; rw [if_pos g1, if_pos h2, if_pos h4, if_pos h5, if_neg (by rw [h6]; decide)]))
    have x5 := x4.trans e5
    have e : badOffer z s' m op ns r = badInit (.choice (.cons z s' m op ns r .nil)) := by unfold badOffer; rw [if_pos g1, if_pos h2, if_pos h4, if_pos h5, if_pos h6]
    rw [e] at md
    exact ret_make (p := .choice (.cons z s' m op ns r .nil)) ev_c (evp_offer rfl rfl rfl rfl rfl rfl (hu.ex x5) (hb.ex x5)) (md.ex x5)
end
end Fs

set_option Elab.async false
set_option linter.all false
set_option maxRecDepth 100000
set_option maxHeartbeats 2000000
/-! a op b, both instances of one class of the program that defines the operator. -/
namespace FsR
open PySem PySem.Spec PyProof.Rows L2 ClX
structure OpM (K : PySem.W.Frag) (C : Addr) (op : Operator) (g : Addr) : Prop where
  fst : PySem.W.selfFirst K C = true
  at_ : PySem.W.findIn K (.ref C) (PySem.dunder op.info.2) = some (some (.ref g))
  fn : PySem.W.isFn K (.ref g) = true
/-- a op b -/
def tOwn (C : Addr) (sp : Sp) (E : L2.St → XK) (ta tb : TE) : TE := fun σ H Q => ta σ H fun x H1 => tb σ H1 fun y H2 => ∃ (a b dx dy : Addr) (fs gs : List (Str × V)), x = .ref a ∧ y = .ref b ∧ H2 a = some (.ins C dx fs) ∧ H2 b = some (.ins C dy gs) ∧ sp [.ref a, .ref b] H2 Q (E σ)
theorem no_notimpl {y : V} (r : RelV y Value.notImplemented) : False := by
  cases y <;> first | (obtain ⟨t, e⟩ := r; cases e; done) | (cases r; done)
theorem pe_own {X : Cx} {CX : CXT} {k : Nat} {C g : Addr} {fd : FuncData} {ps : List Str} {sp : Sp} {E : L2.St → XK} {ea eb : Expr} {op : Operator} {pos : Pos} {ta tb : TE} (ha : PE X ea ta) (hb : PE X eb tb) (M : OpM X.K C op g) (F : FnOk X.prog X.w X.K X.mg X.base CX k g fd ps sp) (hr : Room k X.A) (hd : Binds X.K fd ps [])
    (hx : ∀ σ, PassesAt CX X σ (E σ)) : PE X (.BinOp ea op eb pos) (tOwn C sp E ta tb) := by
  refine ⟨fun pins s σ H Q I h => wpAny_BinOp (binT ha hb I h fun v u s2 x y H2 I2 rx ry q => ?_)⟩
  obtain ⟨a, b, dx, dy, fs, gs, rfl, rfl, h1, h2, q⟩ := q
  obtain rfl : v = Value.ref a := rx
  obtain rfl : u = Value.ref b := ry
  obtain ⟨_, O1, _, _, _, _⟩ := ins_get I2.hok h1
  obtain ⟨_, O2, _, _, _, _⟩ := ins_get I2.hok h2
  obtain ⟨_, i1, _⟩ := O1.look
  obtain ⟨_, i2, _⟩ := O2.look
  obtain ⟨m, fr⟩ := I2.fr
  refine PySem.W.binop_K fr I2.ok.mod.kin i1 i2.type M.fst M.at_ M.fn (wpAny_mono (run_fnS (us := [.ref a, .ref b]) (vs := [.ref a, .ref b]) F hr hd (hx σ) I2 (.cons rfl (.cons rfl .nil)) q) (fun w s' hw => ?_) fun _ _ z => z)
  obtain ⟨y, H', J, r, q'⟩ := hw
  have fin : EP X pins σ Q w s' := ⟨y, H', J, r, q'⟩
  cases w with
  | notImplemented => exact no_notimpl r
  | _ => exact fin
end FsR

set_option Elab.async false
set_option linter.all false
set_option maxRecDepth 100000
set_option maxHeartbeats 4000000
namespace Fs
open PySem L2 Evl FsE FsC FsR FsT
/-! ### sums of choices -/
def Ofs.app : Ofs → Ofs → Ofs
  | .nil, qs => qs
  | .cons c s m op ns r os, qs => .cons c s m op ns r (os.app qs)
def Pr.isCh : Pr → Bool
  | .choice _ => true
  | _ => false
def Pr.ofs : Pr → Ofs
  | .choice os => os
  | _ => .nil
theorem Pr.ch_eq {p : Pr} (h : p.isCh = true) : p = .choice p.ofs := by
  cases p <;> first | rfl | cases h
theorem kind_ch (p : Pr) : decide (V.str p.kind = V.str "choice") = p.isCh := by
  cases p with
  | choice os =>
    show decide (V.str ("choice" : Str) = V.str "choice") = true
    decide +kernel
  | new n k r =>
    show decide (V.str ("new" : Str) = V.str "choice") = false
    decide +kernel
  | cond l r y n =>
    show decide (V.str ("if" : Str) = V.str "choice") = false
    decide +kernel
  | call n ops =>
    show decide (V.str ("call" : Str) = V.str "choice") = false
    decide +kernel
theorem Ofs.app_nil : ∀ os : Ofs, os.app .nil = os
  | .nil => rfl
  | .cons c s m op ns r os => congrArg (Ofs.cons c s m op ns r) (Ofs.app_nil os)
theorem OfsAt.app {C : Addr} {H : Hp} : ∀ {os qs : Ofs} {xs ys : List V}, OfsAt C H xs os → OfsAt C H ys qs → OfsAt C H (xs ++ ys) (os.app qs)
  | .nil, qs, xs, ys, h, g => by
    unfold OfsAt at h
    subst h
    exact g
  | .cons c s m op ns r os, qs, xs, ys, h, g => by
    unfold OfsAt at h
    obtain ⟨o, u, b, zs, rfl, h1, h2, h3, h4⟩ := h
    show OfsAt C H (.ref o :: (zs ++ ys)) (.cons c s m op ns r (os.app qs))
    unfold OfsAt
    exact ⟨o, u, b, zs ++ ys, rfl, h1, h2, h3, OfsAt.app h4 g⟩
theorem Ofs.app_len : ∀ os qs : Ofs, (os.app qs).len = os.len + qs.len
  | .nil, qs => by
    show qs.len = 0 + qs.len
    omega
  | .cons c s m op ns r os, qs => by
    have ih := Ofs.app_len os qs
    show (os.app qs).len + 1 = os.len + 1 + qs.len
    omega
def badAdd (p r : Pr) : Option Str := if (p.isCh && r.isCh) = true then (if p.ofs.len + r.ofs.len ≤ 6 then badInit (.choice (p.ofs.app r.ofs)) else some "offers") else some "choice"
def spChoice (C : Addr) : Sp := fun vs H Q _ => ∃ (a : Addr) (p : Pr), vs = [.ref a] ∧ PrAt C H a p ∧ RetV (.bl p.isCh) H Q
def spAdd (C CB : Addr) : Sp := fun vs H Q E => ∃ (a b : Addr) (p r : Pr), vs = [.ref a, .ref b] ∧ PrAt C H a p ∧ PrAt C H b r ∧ p.ofs.len ≤ 40 ∧ r.ofs.len ≤ 40 ∧ Made C CB (badAdd p r) (.choice (p.ofs.app r.ofs)) H Q E
section
variable {P : Program} {w : World} {K : PySem.W.Frag} {mg : Str → Option Value} {base : Heap} {C CB : Addr}
/-- x = t1 + t2, two tuples -/
theorem q_cat {σ : L2.St} {H : Hp} {ta tb : TE} {t1 t2 : Addr} {xs ys : List V} {i : Nat} {tz : TS} {D : Ends} (h1 : Ev ta σ H (.ref t1)) (h2 : Ev tb σ H (.ref t2)) (g1 : H t1 = some (.tup xs)) (g2 : H t2 = some (.tup ys)) (hl : xs.length + ys.length ≤ 100000)
    (k : ∀ t H2, Ex H H2 → H2 t = some (.tup (xs ++ ys)) → tz D (σ.set i (some (.ref t))) H2) : tSeq (tAsg (tOp (rCatA K) ta tb) (gName i)) tz D σ H :=
  h1 H (Ex.refl H) _ fun H1 e1 => h2 H1 e1 _ fun H2 e2 => ⟨t1, t2, xs, ys, rfl, rfl, st_of ((e1.trans e2) _ _ g1), st_of ((e1.trans e2) _ _ g2), sz_of hl,
    fun hx => k t2 H2 (e1.trans e2) (by rw [hx]; exact (e1.trans e2) _ _ g2), fun _ hy => k t1 H2 (e1.trans e2) (by rw [hy, List.append_nil]; exact (e1.trans e2) _ _ g1), fun _ _ p hp => k p _ ((e1.trans e2).trans (Ex.new hp)) upd_same⟩
/-- Process(kind, parts), parts a name -/
theorem ret_makeV {σ : L2.St} {H : Hp} {tk : TE} {i : Nat} {p : Pr} {t : Addr} {ps : List V} {D : Ends} {E : XK} (hkd : Ev tk σ H (.str p.kind)) (hσ : σ[i]? = some (some (.ref t))) (ht : H t = some (.tup ps)) (hl : ps.length ≤ 100) (hP : PartsAt C H ps p) (m : Made C CB (badInit p) p H D.rt E) :
    tRet (tMake C (spInit C CB) [] E (tCons tk (tCons (tVar i) tNil))) D σ H :=
  hkd H (Ex.refl H) _ fun H1 e1 => ⟨_, hσ, fun x dx hx hdx hne => by
    have x0 : Ex H1 (upd (upd H1 dx (.own x)) x (.ins C dx [])) := by
      intro b o hb
      rw [upd_ne (ne_of_none hb hx), upd_ne (ne_of_none hb hdx)]
      exact hb
    refine ⟨x, dx, p, t, ps, H1, rfl, upd_same, hx, x0, e1 _ _ ht, hl, hP.ex e1, fun hb H' e' h' => ⟨rfl, ?_⟩, fun f hf => ((m.2 f hf).ex e1)⟩
    exact m.1 hb x H' (fresh_back e1 hx) (e1.trans e') (PrAt.mk ⟨dx, h'⟩ (e' _ _ (e1 _ _ ht)) ((hP.ex e1).ex e'))⟩
theorem scChoice : FnScope ["term"] ["term"] (defScope (topS 28)) := ⟨rfl, rfl, rfl, by decide +kernel, rfl, by decide +kernel, by decide +kernel⟩
theorem ok_is_choice {f : Addr} {fd : FuncData} (F : Fun K "is_choice" "is_choice" (topS 28) f fd) (B : BasT K mg) (T : TerT K mg C CB) : FnOk P w K mg base CX0 1 f fd ["term"] (spChoice C) := by
  refine F.ok scChoice (fun vs H Q E h => ?_) (fun cdv A outer s H vs Q E hr h => ?_)
  · obtain ⟨a, p, rfl, _⟩ := h
    rfl
  · obtain ⟨a, p, rfl, ha, q⟩ := h
    refine ⟨_, pss_one (ps_ret (pe_and (pe_callB (id := "isinstance") (r := rIsi K) call_isi (by rfl) B.isinst (by decide +kernel) (pa_cons (pv 0) (pa_cons (pe_glob (v := .ref C) (by rfl) T.mgC rfl) pa_nil))) (pe_one (pe_cmpR op_eq (pe_fld (pv 0) rfl) pe_str (nomark _))))), ?_⟩
    obtain ⟨t, ps, ⟨dx, h1⟩, _⟩ := ha.out
    refine s_ret (v := .bl p.isCh) (ev_is (ev_andV (a := true) (ev_cb (ea_cons (ev_var rfl) (ea_cons ev_c ea_nil)) (rc_isiOwn (tyx_pr T ha) kOwn)) (fun _ => ev_op (ev_fld (ev_var rfl) h1 T.cl T.nK pf_kind) ev_c (rv_eq rfl))) ?_) q
    rw [kind_ch]
    rfl
theorem scAdd : FnScope ["self", "other", "offers"] ["self", "other"] (defScope (inClass (topS 26) 7)) := ⟨rfl, rfl, rfl, by decide +kernel, rfl, by decide +kernel, by decide +kernel⟩
theorem ok_add {f : Addr} {fd : FuncData} {k : Nat} (F : Fun K "__add__" "Process.__add__" (inClass (topS 26) 7) f fd) (T : TerT K mg C CB) (M : MakT P w K mg base C CB k) (GI : CalX P w K mg base CX0 1 "is_choice" (spChoice C)) (mo : GC mg "MOST_OFFERS" (.int 6)) : FnOk P w K mg base (L2.CX P w) (k + 1 + 1) f fd ["self", "other"] (spAdd C CB) := by
  refine F.okX scAdd (fun vs H Q E h => ?_) (fun cdv A outer s H vs Q E hr h => ?_)
  · obtain ⟨a, b, p, r, rfl, _⟩ := h
    rfl
  · obtain ⟨a, b, p, r, rfl, ha, hb, lp, lr, md⟩ := h
    have h3 := M.hk
    refine ⟨_, pss_cons (ps_expr (pe_cx (E := WE (fun cls d _ H => E cls d H)) M.dem hr (Nat.le_succ _) (by rfl) (fun σ => passAt (takes_of rfl rfl rfl rfl) σ) (pa_cons (pe_and (pe_cx (E := fun _ => E0) GI hr (by omega) (by rfl) at0 (pa_cons (pv 0) pa_nil)) (pe_one (pe_cx (E := fun _ => E0) GI hr (by omega) (by rfl) at0 (pa_cons (pv 1) pa_nil)))) (pa_cons pe_str pa_nil))))
      (pss_cons (ps_set (i := 2) scAdd.nd rfl (Or.inl rfl) (pe_op op_catA (pe_fld (pv 0) rfl) (pe_fld (pv 1) rfl)))
      (pss_cons (ps_expr (pe_cx (E := WE (fun cls d _ H => E cls d H)) M.dem hr (Nat.le_succ _) (by rfl) (fun σ => passAt (takes_of rfl rfl rfl rfl) σ) (pa_cons (pe_cmpR op_le (pe_callB call_len_seq (by rfl) M.len PySem.boot_len (pa_cons (pv 2) pa_nil)) (C8.pe_gc (by rfl) mo) (nomark _)) (pa_cons pe_str pa_nil))))
      (pss_one (ps_ret (pe_mx M.make hr (Nat.le_refl _) (by rfl) (passes_call (W := fun cls d _ H => E cls d H) (takes_of rfl rfl rfl rfl) (fun _ _ _ _ h => h)) (pa_cons pe_str (pa_cons (pv 2) pa_nil))))))), ?_⟩
    refine q_demand (b := p.isCh && r.isCh) (by decide +kernel) (ev_andV (ev_cx (ea_cons (ev_var rfl) ea_nil) (fun H1 e1 Q' q' E' => ⟨a, p, rfl, ha.ex e1, fun H2 e2 => q' H2 e2⟩)) (fun _ => ev_cx (ea_cons (ev_var rfl) ea_nil) (fun H1 e1 Q' q' E' => ⟨b, r, rfl, hb.ex e1, fun H2 e2 => q' H2 e2⟩))) (fun h1 H1 e1 => ?_) (fun h1 => md.bad (by unfold badAdd; rw [if_neg (by rw [h1]; decide)]))
    have hpc : p.isCh = true := (Bool.and_eq_true_iff.mp h1).1
    have hrc : r.isCh = true := (Bool.and_eq_true_iff.mp h1).2
    have ha1 : PrAt C H1 a (.choice p.ofs) := Pr.ch_eq hpc ▸ ha.ex e1
    have hb1 : PrAt C H1 b (.choice r.ofs) := Pr.ch_eq hrc ▸ hb.ex e1
    obtain ⟨t1, xs, ⟨dx, g1⟩, g2, g3⟩ := ha1.out
    obtain ⟨t2, ys, ⟨dy, j1⟩, j2, j3⟩ := hb1.out
    have g3' : OfsAt C H1 xs p.ofs := g3
    have j3' : OfsAt C H1 ys r.ofs := j3
    have l1 := g3'.len
    have l2 := j3'.len
    have hob : badAdd p r = if p.ofs.len + r.ofs.len ≤ 6 then badInit (.choice (p.ofs.app r.ofs)) else some "offers" := by unfold badAdd; rw [if_pos h1]
    rw [hob] at md
    refine q_cat (ev_fld (ev_var rfl) g1 T.cl T.nP pf_parts) (ev_fld (ev_var rfl) j1 T.cl T.nP pf_parts) g2 j2 (by omega) (fun t H2 e2 ht => ?_)
    have hlen : (((xs ++ ys).length : Nat) : Int) = ((p.ofs.len + r.ofs.len : Nat) : Int) := by rw [List.length_append, l1, l2]
    refine q_demand (b := decide (((p.ofs.len + r.ofs.len : Nat) : Int) ≤ 6)) (by decide +kernel) (ev_op (ev_is (ev_cb (ea_cons (ev_var rfl) ea_nil) (fun H3 e3 Q' q' => ⟨t, _, rfl, .inr (st_of (e3 _ _ ht)), q' H3 (Ex.refl H3)⟩)) (by rw [hlen])) ev_c rv_I0) (fun h2 H3 e3 => ?_) (fun h2 => ?_)
    · have h2' : p.ofs.len + r.ofs.len ≤ 6 := by
        have : (((p.ofs.len + r.ofs.len : Nat) : Int)) ≤ 6 := by simpa using h2
        omega
      rw [if_pos h2'] at md
      have x3 := (e1.trans e2).trans e3
      exact ret_makeV (p := .choice (p.ofs.app r.ofs)) ev_c rfl (e3 _ _ ht) (by rw [List.length_append]; omega) (OfsAt.app (g3'.ex (e2.trans e3)) (j3'.ex (e2.trans e3))) (md.ex x3)
    · have h2' : ¬ p.ofs.len + r.ofs.len ≤ 6 := by
        have : ¬ (((p.ofs.len + r.ofs.len : Nat) : Int)) ≤ 6 := by simpa using h2
        omega
      rw [if_neg h2'] at md
      exact (md.ex (e1.trans e2)).bad rfl
end
end Fs

set_option Elab.async false
set_option linter.all false
set_option maxRecDepth 100000
set_option maxHeartbeats 2000000
/-! Lists of things that stand in the heap; what a list's change leaves. -/
namespace FsK
open PySem PySem.Spec PyProof.Rows L2 Evl FsE FsC FsR Fs
/-- a list may change: what stands in objects and tuples stays -/
structure ExN (H H' : Hp) : Prop where
  ins : ∀ a C dx fs, H a = some (.ins C dx fs) → H' a = some (.ins C dx fs)
  tup : ∀ a xs, H a = some (.tup xs) → H' a = some (.tup xs)
theorem ExN.upd {H : Hp} {l : Addr} {xs ys : List V} (h : H l = some (.lst xs)) : ExN H (upd H l (.lst ys)) := ⟨fun a C dx fs ha => by
    rw [upd_ne (fun z => by rw [z, h] at ha; cases ha)]
    exact ha, fun a xs ha => by
    rw [upd_ne (fun z => by rw [z, h] at ha; cases ha)]
    exact ha⟩
theorem ExN.of {H H' : Hp} (e : Ex H H') : ExN H H' := ⟨fun _ _ _ _ h => e _ _ h, fun _ _ h => e _ _ h⟩
theorem ExN.trans {H H1 H2 : Hp} (e : ExN H H1) (e' : ExN H1 H2) : ExN H H2 := ⟨fun a C dx fs h => e'.ins _ _ _ _ (e.ins _ _ _ _ h), fun a xs h => e'.tup _ _ (e.tup _ _ h)⟩
mutual
theorem PrAt.keep {C : Addr} {H H' : Hp} (e : ExN H H') : ∀ {p : Pr} {a : Addr}, PrAt C H a p → PrAt C H' a p
  | .choice os, a, h => by
    unfold PrAt at h ⊢
    obtain ⟨t, ps, ⟨dx, h1⟩, h2, h3⟩ := h
    exact ⟨t, ps, ⟨dx, e.ins _ _ _ _ h1⟩, e.tup _ _ h2, OfsAt.keep e h3⟩
  | .new n k r, a, h => by
    unfold PrAt at h ⊢
    obtain ⟨t, b, ⟨dx, h1⟩, h2, h3⟩ := h
    exact ⟨t, b, ⟨dx, e.ins _ _ _ _ h1⟩, e.tup _ _ h2, PrAt.keep e h3⟩
  | .cond l r y n, a, h => by
    unfold PrAt at h ⊢
    obtain ⟨t, b, c, ⟨dx, h1⟩, h2, h3, h4⟩ := h
    exact ⟨t, b, c, ⟨dx, e.ins _ _ _ _ h1⟩, e.tup _ _ h2, PrAt.keep e h3, PrAt.keep e h4⟩
  | .call n ops, a, h => by
    unfold PrAt at h ⊢
    obtain ⟨t, u, ⟨dx, h1⟩, h2, h3⟩ := h
    exact ⟨t, u, ⟨dx, e.ins _ _ _ _ h1⟩, e.tup _ _ h2, e.tup _ _ h3⟩
theorem OfsAt.keep {C : Addr} {H H' : Hp} (e : ExN H H') : ∀ {os : Ofs} {ps : List V}, OfsAt C H ps os → OfsAt C H' ps os
  | .nil, ps, h => by
    unfold OfsAt at h ⊢
    exact h
  | .cons c s m op ns r os, ps, h => by
    unfold OfsAt at h ⊢
    obtain ⟨o, u, b, qs, h1, h2, h3, h4, h5⟩ := h
    exact ⟨o, u, b, qs, h1, e.tup _ _ h2, e.tup _ _ h3, PrAt.keep e h4, OfsAt.keep e h5⟩
end
/-- item by item -/
def LsA {α : Type} (R : Hp → V → α → Prop) (H : Hp) : List V → List α → Prop
  | [], [] => True
  | v :: vs, x :: xs => R H v x ∧ LsA R H vs xs
  | _, _ => False
section
variable {α : Type} {R : Hp → V → α → Prop} {H H' : Hp}
theorem LsA.imp (e : ∀ v x, R H v x → R H' v x) : ∀ {vs : List V} {xs : List α}, LsA R H vs xs → LsA R H' vs xs
  | [], [], _ => True.intro
  | _ :: _, _ :: _, h => ⟨e _ _ h.1, LsA.imp e h.2⟩
  | [], _ :: _, h => h.elim
  | _ :: _, [], h => h.elim
theorem LsA.append : ∀ {vs ws : List V} {xs ys : List α}, LsA R H vs xs → LsA R H ws ys → LsA R H (vs ++ ws) (xs ++ ys)
  | [], _, [], _, _, g => g
  | _ :: _, _, _ :: _, _, h, g => ⟨h.1, LsA.append h.2 g⟩
  | [], _, _ :: _, _, h, _ => h.elim
  | _ :: _, _, [], _, h, _ => h.elim
theorem LsA.snoc {v : V} {x : α} {vs : List V} {xs : List α} (h : LsA R H vs xs) (hv : R H v x) : LsA R H (vs ++ [v]) (xs ++ [x]) := h.append ⟨hv, True.intro⟩
theorem LsA.length : ∀ {vs : List V} {xs : List α}, LsA R H vs xs → vs.length = xs.length
  | [], [], _ => rfl
  | _ :: _, _ :: _, h => congrArg (· + 1) (LsA.length h.2)
  | [], _ :: _, h => h.elim
  | _ :: _, [], h => h.elim
theorem LsA.get : ∀ {vs : List V} {xs : List α} {i : Nat} {v : V}, LsA R H vs xs → vs[i]? = some v → ∃ x, xs[i]? = some x ∧ R H v x
  | _ :: _, x :: _, 0, v, h, e => ⟨x, rfl, by cases e; exact h.1⟩
  | _ :: _, _ :: _, i + 1, v, h, e => LsA.get (i := i) h.2 e
  | [], _, _, _, _, e => by simp at e
  | _ :: _, [], _, _, h, _ => h.elim
theorem LsA.at_ {vs : List V} {xs : List α} {i : Nat} (h : LsA R H vs xs) (hi : i < vs.length) : ∃ v x, vs[i]? = some v ∧ xs[i]? = some x ∧ R H v x := by
  obtain ⟨x, h1, h2⟩ := LsA.get h (List.getElem?_eq_getElem hi)
  exact ⟨_, x, List.getElem?_eq_getElem hi, h1, h2⟩
end
/-- it evaluates to something with this word -/
def EvS (te : TE) (σ : L2.St) (H : Hp) (Pv : V → Hp → Prop) : Prop := ∀ H1, Ex H H1 → ∀ Q : VK, (∀ v H2, Ex H1 H2 → Pv v H2 → Q v H2) → te σ H1 Q
section
variable {σ : L2.St} {H : Hp} {te ta : TE} {Pv : V → Hp → Prop} {K : PySem.W.Frag} {D : Ends} {tz : TS}
theorem s_appS {l : Addr} {xs : List V} (hl : H l = some (.lst xs)) (ha : Ev ta σ H (.ref l)) (h : EvS te σ H Pv) (hz : xs.length < 100000) (k : ∀ v H1, Ex H H1 → Pv v H1 → D.nx σ (upd H1 l (.lst (xs ++ [v])))) :
    tDrop (tBM K "list" rAppend ta (tCons te tNil)) D σ H := ha H (Ex.refl H) _ fun H1 e1 =>
  ⟨Or.inl ⟨rfl, xs, sq_of (e1 l _ hl)⟩, h H1 e1 _ fun v H2 e2 hv => ⟨l, xs, v, rfl, rfl, e2 l _ (e1 l _ hl), sz_lt hz, k v H2 (e1.trans e2) hv⟩⟩
theorem q_asgS {i : Nat} (h : EvS te σ H Pv) (k : ∀ v H1, Ex H H1 → Pv v H1 → tz D (σ.set i (some v)) H1) : tSeq (tAsg te (gName i)) tz D σ H := h H (Ex.refl H) _ fun v H1 e1 hv => k v H1 e1 hv
theorem s_retS (h : EvS te σ H Pv) (k : ∀ v H1, Ex H H1 → Pv v H1 → D.rt v H1) : tRet te D σ H := h H (Ex.refl H) _ fun v H1 e1 hv => k v H1 e1 hv
/-- a slice of a new list -/
theorem el_slN {tl th : TO} {xs : List V} {lo hi : Option Int} (h : EvL te σ H xs) (h1 : EvO tl σ H lo) (h2 : EvO th σ H hi) : EvL (tSl (rSlL K) te tl th) σ H (cutV xs lo hi) := fun H1 e Q q =>
  h H1 e _ fun a H2 ha e2 h2' => h1 H2 (e.trans e2) _ fun H3 e3 => h2 H3 ((e.trans e2).trans e3) _ fun H4 e4 =>
    ⟨a, xs, rfl, sq_of ((e3.trans e4) _ _ h2'), fun p hp => q p _ (fresh_back ((e2.trans e3).trans e4) hp) (((e2.trans e3).trans e4).trans (Ex.new hp)) upd_same⟩
end
end FsK

set_option Elab.async false
set_option linter.all false
set_option maxRecDepth 100000
set_option maxHeartbeats 4000000
namespace Fs
open PySem L2 Evl FsE FsC FsR FsT FsK
theorem op_mulS {X : Cx} : OpR X (binaryOp .Mult) (fun x y H Q => ∃ (a : Str) (n : Int), x = .str a ∧ y = .int n ∧ MulOk a n ∧ Q (.str (Txt.mul a n)) H) := by
  intro pins s σ H x y v u Q I rx ry h
  obtain ⟨a, n, rfl, rfl, hm, q⟩ := h
  obtain ⟨t, rfl⟩ := rx
  obtain ⟨t', rfl⟩ := ry
  exact SB.mul hm (fun t' k => ⟨.str (Txt.mul a n), H, I.tok _, ⟨_, rfl⟩, q⟩)
theorem at_of {α : Type} {xs : List α} {i : Int} (h0 : 0 ≤ i) (h1 : i < xs.length) : ∃ x, x ∈ xs ∧ atI xs i = some x := by
  obtain ⟨j, rfl⟩ : ∃ j : Nat, i = (j : Int) := ⟨i.toNat, by omega⟩
  have hj : j < xs.length := by omega
  exact ⟨xs[j], List.getElem_mem hj, atI_nat (List.getElem?_eq_getElem hj)⟩
theorem rv_cat {x y : Str} {H : Hp} (h : x.length + y.length ≤ 100000) : RV (fun x y H Q => ∃ i j, x = V.str i ∧ y = V.str j ∧ i.length + j.length ≤ sizeLine ∧ Q (.str (i ++ j)) H) (.str x) (.str y) H (.str (x ++ y)) := fun H1 _ Q q => ⟨x, y, rfl, rfl, sz_of h, q H1 (Ex.refl H1)⟩
/-- the law's words are names -/
structure WordOk (z : Str) : Prop where
  nm : nameS z = true
  len : z.length ≤ 8
  ok : PyData.strOk z = true
  n4 : z.length ≠ 4
def wordB (z : Str) : Bool := nameS z && decide (z.length ≤ 8) && PyData.strOk z && decide (z.length ≠ 4)
theorem wordB_ok {z : Str} (h : wordB z = true) : WordOk z := by
  unfold wordB at h
  obtain ⟨h, h4⟩ := Bool.and_eq_true_iff.mp h
  obtain ⟨h, h3⟩ := Bool.and_eq_true_iff.mp h
  obtain ⟨h1, h2⟩ := Bool.and_eq_true_iff.mp h
  exact ⟨h1, of_decide_eq_true h2, h3, of_decide_eq_true h4⟩
theorem w_1 : ∀ c ∈ lettersS.cps.toList, wordB ⟨#[c]⟩ = true := by decide +kernel
theorem dig_no : ∀ e ∈ digitsS.cps.toList, signOk e = true ∧ e < 0x110000 ∧ e ∉ lettersS.cps.toList := by decide +kernel
theorem let_no : ∀ c ∈ lettersS.cps.toList, signOk c = true ∧ c < 0x110000 := by decide +kernel
theorem res_let : ∀ v ∈ reservedV, (match v with | .str w => w.cps.toList.all (fun c => decide (c ∈ lettersS.cps.toList)) | _ => false) = true := by
  unfold reservedV
  intro v hv
  simp only [List.mem_cons, List.not_mem_nil, or_false] at hv
  rcases hv with rfl | rfl | rfl | rfl | rfl | rfl | rfl | rfl | rfl | rfl | rfl
  all_goals decide +kernel
/-- a text with a sign that is no letter is no reserved word -/
theorem not_res {z : Str} {e : Nat} (he : e ∈ z.cps.toList) (hn : e ∉ lettersS.cps.toList) : inV (.str z) reservedV = false := by
  refine Bool.eq_false_iff.mpr fun h => ?_
  unfold inV at h
  obtain ⟨y, hy, hq⟩ := List.any_eq_true.mp h
  have hl := res_let y hy
  cases y with
  | str w =>
    have hw : w = z := eq_of_beq (show (w == z) = true from hq)
    subst hw
    exact hn (of_decide_eq_true (List.all_eq_true.mp hl e he))
  | _ => cases hl
theorem w_3 : ∀ c ∈ lettersS.cps.toList, ∀ d ∈ lettersS.cps.toList, ∀ e ∈ digitsS.cps.toList, wordB ((⟨#[c]⟩ : Str) ++ (⟨#[d]⟩ : Str) ++ (⟨#[e]⟩ : Str)) = true := fun c hc d hd e he => by
  show wordB ⟨#[c, d, e]⟩ = true
  obtain ⟨e1, e2, e3⟩ := dig_no e he
  obtain ⟨c1, c2⟩ := let_no c hc
  obtain ⟨d1, d2⟩ := let_no d hd
  have hr : inV (.str ⟨#[c, d, e]⟩) reservedV = false := not_res (e := e) (by simp) e3
  have hn : nameS ⟨#[c, d, e]⟩ = true := by
    unfold nameS
    rw [hr]
    show (decide (1 ≤ 3) && decide (3 ≤ 8) && decide (c ∈ lettersS.cps.toList) && !false && (signOk c && (signOk d && (signOk e && true)))) = true
    rw [decide_eq_true hc, c1, d1, e1]
    rfl
  have hs : PyData.strOk ⟨#[c, d, e]⟩ = true := by
    show (#[c, d, e] : Array Nat).all (· < 0x110000) = true
    simp [c2, d2, e2]
  unfold wordB
  rw [hn, hs]
  rfl
theorem w_8 : ∀ c ∈ lettersS.cps.toList, ∀ e ∈ digitsS.cps.toList, wordB (Txt.mul (⟨#[c]⟩ : Str) 7 ++ (⟨#[e]⟩ : Str)) = true := by decide +kernel
def spWord : Sp := fun vs H Q _ => ∃ d : Int, vs = [.int d] ∧ ∀ z, WordOk z → RetV (.str z) H Q
end Fs

set_option Elab.async false
set_option linter.all false
set_option maxRecDepth 100000
set_option maxHeartbeats 8000000
namespace Fs
open PySem L2 Evl FsE FsC FsR FsT FsK
theorem r_call {σ : L2.St} {H : Hp} {ta : TA} {vs : List V} {sp : Sp} {E : L2.St → XK} {D : Ends} (h : EvA ta σ H vs) (k : ∀ H1, Ex H H1 → sp vs H1 D.rt (E σ)) : tRet (tCallS sp E ta) D σ H := h H (Ex.refl H) _ fun H1 e1 => k H1 e1
theorem row_getN {row : List Int} {n i : Nat} (hl : row.length = n) (hr : RowOk row) (hi : i < n) : ∃ v, atI (row.map V.int) (i : Int) = some (.int v) ∧ 0 ≤ v ∧ v < 1000 := by
  have h : i < row.length := by omega
  refine ⟨row[i], atI_nat (by rw [List.getElem?_map, List.getElem?_eq_getElem h]; rfl), ?_⟩
  exact hr _ (List.getElem_mem h)
/-- an operand that is allowed -/
def OpdOk : Opd → Prop
  | .int i => -(10 ^ 30) < i ∧ i < 10 ^ 30
  | .nm z => WordOk z
theorem opdOk_v {o : Opd} (h : OpdOk o) : operandV o.v = true := by
  cases o with
  | int i =>
    show (decide (-(10 ^ 30) < i) && decide (i < 10 ^ 30) || false) = true
    rw [decide_eq_true h.1, decide_eq_true h.2]
    rfl
  | nm z =>
    show (false || nameS z) = true
    rw [Bool.false_or]
    exact h.nm
theorem opdOk_ok {o : Opd} (h : OpdOk o) : o.ok := by
  cases o with
  | int i => exact True.intro
  | nm z =>
    show z.length ≤ 40000
    have := h.len
    omega
def spWordX : Sp := fun vs H Q _ => ∃ d : Int, vs = [.int d] ∧ ∀ z, WordOk z → (d / 26 % 3 = 0 → ∃ c ∈ lettersS.cps.toList, z = ⟨#[c]⟩) → RetV (.str z) H Q
def spOperand : Sp := fun vs H Q _ => ∃ d : Int, vs = [.int d] ∧ 0 ≤ d ∧ d < 1000 ∧ ∀ o, OpdOk o → RetV o.v H Q
theorem bigL {x : V} {i : Int} (h0 : 0 ≤ i) (h1 : i < 1000) (h : x ∈ [V.int ((10 : Int) ^ (30 : Int).toNat - 1), .int (1 - (10 : Int) ^ (30 : Int).toNat), .int ((10 : Int) ^ (29 : Int).toNat), .int 0, .int (100 - i)]) : ∃ o : Opd, x = o.v ∧ OpdOk o := by
  simp only [List.mem_cons, List.not_mem_nil, or_false] at h
  rcases h with h | h | h | h | h
  · exact ⟨.int _, h, by decide, by decide⟩
  · exact ⟨.int _, h, by decide, by decide⟩
  · exact ⟨.int _, h, by decide, by decide⟩
  · exact ⟨.int _, h, by decide, by decide⟩
  · refine ⟨.int _, h, ?_, ?_⟩ <;> omega
section
variable {P : Program} {w : World} {K : PySem.W.Frag} {mg : Str → Option Value} {base : Heap} {C CB : Addr}
theorem scWord : FnScope ["_law_draw", "_law_letters", "_law_word_here"] ["_law_draw"] (defScope (topS 35)) := ⟨rfl, rfl, rfl, by decide +kernel, rfl, by decide +kernel, by decide +kernel⟩
theorem ok_word {f : Addr} {fd : FuncData} (F : Fun K "_law_word" "_law_word" (topS 35) f fd) (L : LawT K mg) : FnOk P w K mg base CX0 1 f fd ["_law_draw"] spWordX := by
  refine F.ok scWord (fun vs H Q E h => ?_) (fun cdv A outer s H vs Q E hr h => ?_)
  · obtain ⟨d, rfl, _⟩ := h
    rfl
  · obtain ⟨d, rfl, q⟩ := h
    refine ⟨_, pss_cons (ps_set (i := 1) scWord.nd rfl (Or.inl rfl) pe_str)
      (pss_cons (ps_set (i := 2) scWord.nd rfl (Or.inl rfl) (pe_ix ix_str (pv 1) (pe_op op_mod (pe_callTy call_int1 (by rfl) L.int (by decide +kernel) (pa_cons (pv 0) pa_nil)) pe_int) (fun _ _ => rfl)))
      (pss_cut (ps_if (pt_cmpR op_eq (pe_op op_mod (pe_op op_fdiv (pv 0) pe_int) pe_int) pe_int (nomark _)) (pss_one (ps_set (i := 2) scWord.nd rfl (Or.inl rfl) (pe_op op_add_str (pe_op op_add_str (pv 2) (pe_ix ix_str (pv 1) (pe_op op_mod (pe_op op_fdiv (pv 0) pe_int) pe_int) (fun _ _ => rfl))) (pe_ix ix_str pe_str (pe_op op_mod (pe_op op_fdiv (pv 0) pe_int) pe_int) (fun _ _ => rfl)))))
        (pss_one (ps_if (pt_cmpR op_eq (pe_op op_mod (pe_op op_fdiv (pv 0) pe_int) pe_int) pe_int (nomark _)) (pss_one (ps_set (i := 2) scWord.nd rfl (Or.inl rfl) (pe_op op_add_str (pe_op op_mulS (pv 2) pe_int) (pe_ix ix_str pe_str (pe_op op_mod (pe_op op_fdiv (pv 0) pe_int) pe_int) (fun _ _ => rfl))))) pss_nil)))
      (pss_one (ps_ret (pv 2))))), ?_⟩
    have hlS : lettersS.length ≤ 100000 := by decide +kernel
    have hdS : digitsS.length ≤ 100000 := by decide +kernel
    obtain ⟨c, mc, ac⟩ := at_of (xs := lettersS.cps.toList) (i := d % 26) (Int.emod_nonneg _ (by decide)) (Int.emod_lt_of_pos _ (by decide))
    obtain ⟨c2, mc2, ac2⟩ := at_of (xs := lettersS.cps.toList) (i := d / 78 % 13) (Int.emod_nonneg _ (by decide)) (by have := Int.emod_lt_of_pos (d / 78) (b := 13) (by decide); show _ < ((26 : Nat) : Int); omega)
    obtain ⟨e, me, ae⟩ := at_of (xs := digitsS.cps.toList) (i := d / 78 % 10) (Int.emod_nonneg _ (by decide)) (Int.emod_lt_of_pos _ (by decide))
    refine q_asg (v := .str lettersS) ev_c (fun H1 e1 => ?_)
    refine q_asg (v := .str ⟨#[c]⟩) (ev_op (y := .int (d % 26)) (ev_var rfl) (ev_op (x := .int d) (ev_cb (ea_cons (ev_var rfl) ea_nil) (rc_int (K := K))) ev_c (rv_I (by decide))) (rv_ixS hlS ac)) (fun H2 e2 => ?_)
    have x2 := e1.trans e2
    refine q_cut (M := fun σ' H' => ∃ z : Str, σ' = [some (.int d), some (.str lettersS), some (.str z)] ∧ Ex H H' ∧ WordOk z ∧ (d / 26 % 3 = 0 → ∃ c ∈ lettersS.cps.toList, z = ⟨#[c]⟩)) ?_ (fun σ' H' ⟨z, hσ, he, hz, hs⟩ => ?_)
    · refine s_if (b := decide (V.int (d / 26 % 3) = V.int 1)) (et_test (ev_op (x := .int (d / 26 % 3)) (ev_op (x := .int (d / 26)) (ev_op (x := .int d) (y := .int 26) (ev_var rfl) ev_c (rv_I ⟨by decide, by decide⟩)) ev_c (rv_I (by decide))) ev_c (rv_eq rfl))) (fun hb H3 e3 => ?_) (fun hb H3 e3 => ?_)
      · have h1 : d / 26 % 3 = 1 := V.int.inj (of_decide_eq_true hb)
        refine s_asg (v := .str ((⟨#[c]⟩ : Str) ++ (⟨#[c2]⟩ : Str) ++ (⟨#[e]⟩ : Str))) (ev_op (x := .str ((⟨#[c]⟩ : Str) ++ (⟨#[c2]⟩ : Str))) (ev_op (y := .str ⟨#[c2]⟩) (ev_var rfl) (ev_op (y := .int (d / 78 % 13)) (ev_var rfl) (ev_op (x := .int (d / 78)) (ev_op (x := .int d) (y := .int 78) (ev_var rfl) ev_c (rv_I ⟨by decide, by decide⟩)) ev_c (rv_I (by decide))) (rv_ixS hlS ac2)) (rv_cat (by show 1 + 1 ≤ 100000; decide)))
          (ev_op (x := .str digitsS) (y := .int (d / 78 % 10)) ev_c (ev_op (x := .int (d / 78)) (ev_op (x := .int d) (y := .int 78) (ev_var rfl) ev_c (rv_I ⟨by decide, by decide⟩)) ev_c (rv_I (by decide))) (rv_ixS hdS ae)) (rv_cat (by show 2 + 1 ≤ 100000; decide))) (fun H4 e4 => ⟨_, rfl, (x2.trans e3).trans e4, wordB_ok (w_3 c mc c2 mc2 e me), fun z => absurd (h1.symm.trans z) (by decide)⟩)
      · refine s_when (b := decide (V.int (d / 26 % 3) = V.int 2)) (et_test (ev_op (x := .int (d / 26 % 3)) (ev_op (x := .int (d / 26)) (ev_op (x := .int d) (y := .int 26) (ev_var rfl) ev_c (rv_I ⟨by decide, by decide⟩)) ev_c (rv_I (by decide))) ev_c (rv_eq rfl))) (fun hb2 H4 e4 => ?_) (fun hb2 H4 e4 => ?_)
        · have h2 : d / 26 % 3 = 2 := V.int.inj (of_decide_eq_true hb2)
          have hm : MulOk (⟨#[c]⟩ : Str) 7 := ⟨by decide, fun _ _ => by show ¬ ((1 : Nat) : Int) > (2 ^ 63 - 1) / 7; decide, fun _ _ => by show decide (1 * 7 > sizeLine) = false; rw [sizeLine_eq]; decide⟩
          have hml : (Txt.mul (⟨#[c]⟩ : Str) 7).length = 7 := rfl
          refine s_asg (v := .str (Txt.mul (⟨#[c]⟩ : Str) 7 ++ (⟨#[e]⟩ : Str))) (ev_op (x := .str (Txt.mul (⟨#[c]⟩ : Str) 7)) (ev_op (x := .str ⟨#[c]⟩) (y := .int 7) (ev_var rfl) ev_c (fun H5 _ Q' q' => ⟨_, 7, rfl, rfl, hm, q' H5 (Ex.refl H5)⟩))
            (ev_op (x := .str digitsS) (y := .int (d / 78 % 10)) ev_c (ev_op (x := .int (d / 78)) (ev_op (x := .int d) (y := .int 78) (ev_var rfl) ev_c (rv_I ⟨by decide, by decide⟩)) ev_c (rv_I (by decide))) (rv_ixS hdS ae)) (rv_cat (by rw [hml]; show 7 + 1 ≤ 100000; decide))) (fun H5 e5 => ⟨_, rfl, ((x2.trans e3).trans e4).trans e5, wordB_ok (w_8 c mc e me), fun z => absurd (h2.symm.trans z) (by decide)⟩)
        · exact ⟨_, rfl, (x2.trans e3).trans e4, wordB_ok (w_1 c mc), fun _ => ⟨c, mc, rfl⟩⟩
    · subst hσ
      exact s_ret (ev_var rfl) (fun H3 e3 => q z hz hs H3 (he.trans e3))
theorem scLOperand : FnScope ["_law_draw", "_law_way"] ["_law_draw"] (defScope (topS 36)) := ⟨rfl, rfl, rfl, by decide +kernel, rfl, by decide +kernel, by decide +kernel⟩
theorem ok_loperand {f : Addr} {fd : FuncData} (F : Fun K "_law_operand" "_law_operand" (topS 36) f fd) (L : LawT K mg) (GW : CalX P w K mg base CX0 1 "_law_word" spWordX) : FnOk P w K mg base CX0 2 f fd ["_law_draw"] spOperand := by
  refine F.ok scLOperand (fun vs H Q E h => ?_) (fun cdv A outer s H vs Q E hr h => ?_)
  · obtain ⟨d, rfl, _⟩ := h
    rfl
  · obtain ⟨d, rfl, d0, d1, q⟩ := h
    refine ⟨_, pss_cons (ps_set (i := 1) scLOperand.nd rfl (Or.inl rfl) (pe_op op_fdiv (pv 0) pe_int))
      (pss_cons (ps_if (pt_cmpR op_lt (pe_op op_mod (pe_callTy call_int1 (by rfl) L.int (by decide +kernel) (pa_cons (pv 0) pa_nil)) pe_int) pe_int (nomark _)) (pss_one (ps_ret (pe_op op_sub (pe_op op_mod (pe_callTy call_int1 (by rfl) L.int (by decide +kernel) (pa_cons (pv 1) pa_nil)) pe_int) pe_int))) pss_nil)
      (pss_cons (ps_if (pt_cmpR op_eq (pe_op op_mod (pe_callTy call_int1 (by rfl) L.int (by decide +kernel) (pa_cons (pv 0) pa_nil)) pe_int) pe_int (nomark _)) (pss_one (ps_ret (pe_ix ix_list (pe_lst (pa_cons (pe_op op_sub (pe_op op_pow pe_int pe_int) pe_int) (pa_cons (pe_op op_sub pe_int (pe_op op_pow pe_int pe_int)) (pa_cons (pe_op op_pow pe_int pe_int) (pa_cons pe_int (pa_cons (pe_op op_sub pe_int (pv 1)) pa_nil))))))
          (pe_op op_mod (pe_callTy call_int1 (by rfl) L.int (by decide +kernel) (pa_cons (pv 1) pa_nil)) pe_int) (fun _ _ => rfl)))) pss_nil)
      (pss_one (ps_ret (pe_cx (E := fun _ => E0) GW hr (by omega) (by rfl) at0 (pa_cons (pe_op op_add (pe_op op_mul (pv 1) pe_int) (pe_op op_mod (pe_callTy call_int1 (by rfl) L.int (by decide +kernel) (pa_cons (pv 0) pa_nil)) pe_int)) pa_nil)))))), ?_⟩
    refine q_asg (v := .int (d / 5)) (ev_op (x := .int d) (y := .int 5) (ev_var rfl) ev_c (rv_I ⟨by decide, by decide⟩)) (fun H1 e1 => ?_)
    have hw0 : 0 ≤ d / 5 := by omega
    have hw1 : d / 5 < 1000 := by omega
    generalize hw : d / 5 = wy at hw0 hw1
    refine q_when (b := decide (d % 5 < 2)) (et_test (ev_op (x := .int (d % 5)) (ev_op (x := .int d) (ev_cb (ea_cons (ev_var rfl) ea_nil) (rc_int (K := K))) ev_c (rv_I (by decide))) ev_c rv_I0)) (fun hb H2 e2 => ?_) (fun hb H2 e2 => ?_)
    · have m0 := Int.emod_nonneg wy (b := 19) (by decide)
      have m1 := Int.emod_lt_of_pos wy (b := 19) (by decide)
      exact s_ret (v := .int (wy % 19 - 9)) (ev_op (x := .int (wy % 19)) (ev_op (x := .int wy) (ev_cb (ea_cons (ev_var rfl) ea_nil) (rc_int (K := K))) ev_c (rv_I (by decide))) ev_c rv_I0) (fun H3 e3 => q (.int (wy % 19 - 9)) ⟨by omega, by omega⟩ H3 ((e1.trans e2).trans e3))
    have x2 := e1.trans e2
    refine q_when (b := decide (V.int (d % 5) = V.int 2)) (et_test (ev_op (x := .int (d % 5)) (ev_op (x := .int d) (ev_cb (ea_cons (ev_var rfl) ea_nil) (rc_int (K := K))) ev_c (rv_I (by decide))) ev_c (rv_eq rfl))) (fun hb2 H3 e3 => ?_) (fun hb2 H3 e3 => ?_)
    · obtain ⟨x, hx, hat⟩ := at_of (xs := [V.int ((10 : Int) ^ (30 : Int).toNat - 1), .int (1 - (10 : Int) ^ (30 : Int).toNat), .int ((10 : Int) ^ (29 : Int).toNat), .int 0, .int (100 - wy)]) (i := wy % 5) (Int.emod_nonneg _ (by decide)) (Int.emod_lt_of_pos _ (by decide))
      obtain ⟨o, rfl, ho⟩ := bigL hw0 hw1 hx
      exact s_ret (v := o.v) (ev_opL1 (xs := [V.int ((10 : Int) ^ (30 : Int).toNat - 1), .int (1 - (10 : Int) ^ (30 : Int).toNat), .int ((10 : Int) ^ (29 : Int).toNat), .int 0, .int (100 - wy)]) (y := .int (wy % 5))
        (el_lst (ea_cons (ev_op (ev_op ev_c ev_c (rv_I ⟨by decide, by decide, by decide⟩)) ev_c rv_I0) (ea_cons (ev_op ev_c (ev_op ev_c ev_c (rv_I ⟨by decide, by decide, by decide⟩)) rv_I0) (ea_cons (ev_op ev_c ev_c (rv_I ⟨by decide, by decide, by decide⟩)) (ea_cons ev_c (ea_cons (ev_op ev_c (ev_var rfl) rv_I0) ea_nil))))) (by show 5 ≤ 100000; decide))
        (fun H4 e4 => ev_op (x := .int wy) (ev_cb (ea_cons (ev_var rfl) ea_nil) (rc_int (K := K))) ev_c (rv_I (by decide))) (fun p H4 hp e4 => rv_ixL (sq_of hp) hat)) (fun H4 e4 => q o ho H4 ((x2.trans e3).trans e4))
    · have cm : CMul wy 5 := .inr ⟨by decide, by decide⟩
      exact r_call (vs := [.int (wy * 5 + d % 5)]) (ea_cons (ev_op (ev_op (x := .int wy) (y := .int 5) (ev_var rfl) ev_c (rv_I cm)) (ev_op (x := .int d) (ev_cb (ea_cons (ev_var rfl) ea_nil) (rc_int (K := K))) ev_c (rv_I (by decide))) rv_I0) ea_nil) (fun H4 e4 => ⟨_, rfl, fun z hz _ H5 e5 => q (.nm z) hz H5 (((x2.trans e3).trans e4).trans e5)⟩)
end
end Fs

set_option Elab.async false
set_option linter.all false
set_option maxRecDepth 100000
set_option maxHeartbeats 8000000
namespace Fs
open PySem L2 Evl FsE FsC FsR FsT FsK
/-- an offer that is allowed, but for its rest -/
structure OfOk (ch : Str) (s m : Int) (op : Opd) (ns : List Str) : Prop where
  ch : WordOk ch
  m1 : 1 ≤ m
  m4 : m ≤ 4
  s0 : 0 ≤ s
  s1 : s < m
  op : OpdOk op
  nl : (ns.length : Int) = m - 1
  nd : namesS ns = true
  nz : ∀ y ∈ ns, y.length ≤ 2 ∧ PyData.strOk y = true
def nmX (c d : Nat) : Str := (⟨#[c]⟩ : Str) ++ (⟨#[d]⟩ : Str)
def rotN (c : Nat) (t : Nat) : List Str := [nmX c 48, nmX c 49, nmX c 50].drop t ++ [nmX c 48, nmX c 49, nmX c 50].take t
theorem rot_ok : ∀ c ∈ lettersS.cps.toList, ∀ t ∈ [0, 1, 2], ∀ j ∈ [0, 1, 2, 3], namesS ((rotN c t).take j) = true := by decide +kernel
theorem rot_len {c t j : Nat} (ht : t ≤ 2) (hj : j ≤ 3) : ((rotN c t).take j).length = j := by
  unfold rotN
  rw [List.length_take, List.length_append, List.length_drop, List.length_take]
  show min j ((3 - t) + min t 3) = j
  omega
theorem nm_ok : ∀ c ∈ lettersS.cps.toList, ∀ d ∈ [48, 49, 50], (nmX c d).length ≤ 2 ∧ PyData.strOk (nmX c d) = true := by decide +kernel
theorem rot_mem {c t j : Nat} {y : Str} (h : y ∈ (rotN c t).take j) : ∃ d ∈ [48, 49, 50], y = nmX c d := by
  have h' := List.mem_of_mem_take h
  unfold rotN at h'
  have h2 : y ∈ [nmX c 48, nmX c 49, nmX c 50] := by
    rcases List.mem_append.mp h' with h' | h'
    · exact List.mem_of_mem_drop h'
    · exact List.mem_of_mem_take h'
  rcases List.mem_cons.mp h2 with rfl | h2
  · exact ⟨48, by decide, rfl⟩
  rcases List.mem_cons.mp h2 with rfl | h2
  · exact ⟨49, by decide, rfl⟩
  rcases List.mem_cons.mp h2 with rfl | h2
  · exact ⟨50, by decide, rfl⟩
  · cases h2
theorem rot_cut {c t : Nat} (ht : t ≤ 2) : cutV [.str (nmX c 48), .str (nmX c 49), .str (nmX c 50)] (some (t : Int)) none ++ cutV [.str (nmX c 48), .str (nmX c 49), .str (nmX c 50)] none (some (t : Int)) = (rotN c t).map V.str := by
  have : t = 0 ∨ t = 1 ∨ t = 2 := by omega
  rcases this with rfl | rfl | rfl <;> rfl
theorem take_cut {c t j : Nat} (ht : t ≤ 2) (hj : j ≤ 3) : cutV ((rotN c t).map V.str) none (some (j : Int)) = ((rotN c t).take j).map V.str := by
  have h1 : t = 0 ∨ t = 1 ∨ t = 2 := by omega
  have h2 : j = 0 ∨ j = 1 ∨ j = 2 ∨ j = 3 := by omega
  rcases h1 with rfl | rfl | rfl <;> rcases h2 with rfl | rfl | rfl | rfl <;> rfl
def spLOffer : Sp := fun vs H Q _ => ∃ (rl : Addr) (row : List Int) (k : Nat) (b : Addr), vs = [.ref rl, .int (k : Int), .ref b] ∧ H rl = some (.lst (row.map V.int)) ∧ RowOk row ∧ k + 3 < row.length ∧ k ≤ 1000 ∧
  ∀ ch s m op ns o u H', H o = none → H u = none → Ex H H' → H' o = some (.tup [.str ch, .int s, .int m, Opd.v op, .ref u, .ref b]) → H' u = some (.lst (ns.map V.str)) → OfOk ch s m op ns → Q (.ref o) H'
theorem el_is {σ : L2.St} {H : Hp} {te : TE} {xs ys : List V} (h : EvL te σ H xs) (e : xs = ys) : EvL te σ H ys := e ▸ h
section
variable {σ : L2.St} {H : Hp} {ta tb : TE} {tas : TA} {E : L2.St → XK}
theorem el_catLL {xs ys : List V} (ha : EvL ta σ H xs) (hb : EvL tb σ H ys) (hz : xs.length + ys.length ≤ sizeLine) : EvL (tOp rCat ta tb) σ H (xs ++ ys) := fun H1 e Q q =>
  ha H1 e _ fun l H2 hl e2 h2 => hb H2 (e.trans e2) _ fun p H3 hp e3 h3 => ⟨l, p, xs, ys, rfl, rfl, e3 _ _ h2, h3, hz, fun r hr => q r _ (fresh_back (e2.trans e3) hr) ((e2.trans e3).trans (Ex.new hr)) upd_same⟩
theorem es_word {d : Int} (h : EvA tas σ H [.int d]) : EvS (tCallS spWordX E tas) σ H (fun v _ => ∃ z, v = .str z ∧ WordOk z ∧ (d / 26 % 3 = 0 → ∃ c ∈ lettersS.cps.toList, z = ⟨#[c]⟩)) := fun H1 e1 Q q =>
  h H1 e1 _ fun H2 e2 => ⟨d, rfl, fun z hz hs H3 e3 => q (.str z) H3 (e2.trans e3) ⟨z, rfl, hz, hs⟩⟩
theorem es_opd {d : Int} (h : EvA tas σ H [.int d]) (d0 : 0 ≤ d) (d1 : d < 1000) : EvS (tCallS spOperand E tas) σ H (fun v _ => ∃ o : Opd, v = o.v ∧ OpdOk o) := fun H1 e1 Q q =>
  h H1 e1 _ fun H2 e2 => ⟨d, rfl, d0, d1, fun o ho H3 e3 => q o.v H3 (e2.trans e3) ⟨o, rfl, ho⟩⟩
end
section
variable {P : Program} {w : World} {K : PySem.W.Frag} {mg : Str → Option Value} {base : Heap} {C CB : Addr}
abbrev nsLOff : List Str := ["_law_row_here", "_law_at", "_law_rest", "_law_seats", "_law_seat", "_law_letter", "_law_names", "_law_turn"]
theorem scLOffer : FnScope nsLOff ["_law_row_here", "_law_at", "_law_rest"] (defScope (topS 37)) := ⟨rfl, rfl, rfl, by decide +kernel, rfl, by decide +kernel, by decide +kernel⟩
theorem ok_loffer {f : Addr} {fd : FuncData} (F : Fun K "_law_offer" "_law_offer" (topS 37) f fd) (L : LawT K mg) (GW : CalX P w K mg base CX0 1 "_law_word" spWordX) (GO : CalX P w K mg base CX0 2 "_law_operand" spOperand) : FnOk P w K mg base CX0 3 f fd ["_law_row_here", "_law_at", "_law_rest"] spLOffer := by
  refine F.ok scLOffer (fun vs H Q E h => ?_) (fun cdv A outer s H vs Q E hr h => ?_)
  · obtain ⟨rl, row, k, b, rfl, _⟩ := h
    rfl
  · obtain ⟨rl, row, k, b, rfl, hrl, hrow, hlen, hk, q⟩ := h
    refine ⟨_, pss_cons (ps_set (i := 3) scLOffer.nd rfl (Or.inl rfl) (pe_op op_add pe_int (pe_op op_mod (pe_callTy call_int1 (by rfl) L.int (by decide +kernel) (pa_cons (pe_ix ix_list (pv 0) (pe_op op_add (pv 1) pe_int) (fun _ _ => rfl)) pa_nil)) pe_int)))
      (pss_cons (ps_set (i := 4) scLOffer.nd rfl (Or.inl rfl) (pe_op op_mod (pe_op op_fdiv (pe_ix ix_list (pv 0) (pe_op op_add (pv 1) pe_int) (fun _ _ => rfl)) pe_int) (pv 3)))
      (pss_cons (ps_set (i := 5) scLOffer.nd rfl (Or.inl rfl) (pe_cx (E := fun _ => E0) GW hr (by omega) (by rfl) at0 (pa_cons (pe_op op_mod (pe_callTy call_int1 (by rfl) L.int (by decide +kernel) (pa_cons (pe_ix ix_list (pv 0) (pe_op op_add (pv 1) pe_int) (fun _ _ => rfl)) pa_nil)) pe_int) pa_nil)))
      (pss_cons (ps_set (i := 6) scLOffer.nd rfl (Or.inl rfl) (pe_lst (pa_cons (pe_op op_add_str (pv 5) pe_str) (pa_cons (pe_op op_add_str (pv 5) pe_str) (pa_cons (pe_op op_add_str (pv 5) pe_str) pa_nil)))))
      (pss_cons (ps_set (i := 7) scLOffer.nd rfl (Or.inl rfl) (pe_op op_mod (pe_op op_fdiv (pe_ix ix_list (pv 0) (pe_op op_add (pv 1) pe_int) (fun _ _ => rfl)) pe_int) pe_int))
      (pss_cons (ps_set (i := 6) scLOffer.nd rfl (Or.inl rfl) (pe_op op_cat (pe_slice sl_list (pv 6) (po_some (pv 7)) po_none) (pe_slice sl_list (pv 6) po_none (po_some (pv 7)))))
      (pss_one (ps_ret (pe_tup (pa_cons (pe_cx (E := fun _ => E0) GW hr (by omega) (by rfl) at0 (pa_cons (pe_ix ix_list (pv 0) (pv 1) (fun _ _ => rfl)) pa_nil)) (pa_cons (pv 4) (pa_cons (pv 3) (pa_cons (pe_cx (E := fun _ => E0) GO hr (by omega) (by rfl) at0 (pa_cons (pe_ix ix_list (pv 0) (pe_op op_add (pv 1) pe_int) (fun _ _ => rfl)) pa_nil))
        (pa_cons (pe_slice sl_list (pv 6) po_none (po_some (pe_op op_sub (pv 3) pe_int))) (pa_cons (pv 2) pa_nil)))))))))))))), ?_⟩
    obtain ⟨y0, g0, b00, c0⟩ := row_getN rfl hrow (i := k) (by omega)
    obtain ⟨y1, g1, b1, c1⟩ := row_getN rfl hrow (i := k + 1) (by omega)
    obtain ⟨y2, g2, b2, c2⟩ := row_getN rfl hrow (i := k + 2) (by omega)
    obtain ⟨y3, g3, b3, c3⟩ := row_getN rfl hrow (i := k + 3) (by omega)
    rw [show ((k + 1 : Nat) : Int) = (k : Int) + 1 by omega] at g1
    rw [show ((k + 2 : Nat) : Int) = (k : Int) + 2 by omega] at g2
    rw [show ((k + 3 : Nat) : Int) = (k : Int) + 3 by omega] at g3
    have ix : ∀ {j y : Int} {H9 : Hp} {σ9 : L2.St}, Ex H H9 → σ9[0]? = some (some (.ref rl)) → σ9[1]? = some (some (.int (k : Int))) → atI (row.map V.int) ((k : Int) + j) = some (.int y) → Ev (tOp (rIxL K) (tVar 0) (tOp (rI0 fun i j => .int (i + j)) (tVar 1) (tC (.int j)))) σ9 H9 (.int y) :=
      fun e9 s0 s1 g => ev_op (ev_var s0) (ev_op (ev_var s1) ev_c rv_I0) (rv_ixL (sq_of (e9 _ _ hrl)) g)
    obtain ⟨j, hj, hj3⟩ : ∃ j : Nat, y1 % 4 = (j : Int) ∧ j ≤ 3 := ⟨(y1 % 4).toNat, by omega, by omega⟩
    obtain ⟨t, ht, ht2⟩ : ∃ t : Nat, y3 / 26 % 3 = (t : Int) ∧ t ≤ 2 := ⟨(y3 / 26 % 3).toNat, by omega, by omega⟩
    refine q_asg (v := .int (1 + (j : Int))) (ev_is (ev_op ev_c (ev_op (x := .int y1) (ev_cb (ea_cons (ix (Ex.refl H) rfl rfl g1) ea_nil) (rc_int (K := K))) ev_c (rv_I (by decide))) rv_I0) (by rw [hj])) (fun H1 e1 => ?_)
    have s0 := Int.emod_nonneg (y1 / 4) (b := 1 + (j : Int)) (by omega)
    have s1 := Int.emod_lt_of_pos (y1 / 4) (b := 1 + (j : Int)) (by omega)
    refine q_asg (v := .int (y1 / 4 % (1 + (j : Int)))) (ev_op (x := .int (y1 / 4)) (ev_op (x := .int y1) (y := .int 4) (ix e1 rfl rfl g1) ev_c (rv_I ⟨by decide, by decide⟩)) (ev_var rfl) (rv_I (show (0 : Int) < 1 + (j : Int) by omega))) (fun H2 e2 => ?_)
    have x2 := e1.trans e2
    refine q_asgS (es_word (d := y3 % 26) (ea_cons (ev_op (x := .int y3) (ev_cb (ea_cons (ix x2 rfl rfl g3) ea_nil) (rc_int (K := K))) ev_c (rv_I (by decide))) ea_nil)) (fun v H3 e3 ⟨z, hv, hz, hs⟩ => ?_)
    subst hv
    obtain ⟨c, mc, rfl⟩ := hs (by omega)
    have x3 := x2.trans e3
    refine q_asgL (xs := [.str (nmX c 48), .str (nmX c 49), .str (nmX c 50)]) (el_lst (ea_cons (ev_op (x := .str ⟨#[c]⟩) (y := .str ("0" : Str)) (ev_var rfl) ev_c (rv_cat (by show 1 + 1 ≤ 100000; decide))) (ea_cons (ev_op (x := .str ⟨#[c]⟩) (y := .str ("1" : Str)) (ev_var rfl) ev_c (rv_cat (by show 1 + 1 ≤ 100000; decide))) (ea_cons (ev_op (x := .str ⟨#[c]⟩) (y := .str ("2" : Str)) (ev_var rfl) ev_c (rv_cat (by show 1 + 1 ≤ 100000; decide))) ea_nil))) (by show 3 ≤ 100000; decide)) (fun u0 H4 hu0 e4 h4 => ?_)
    have x4 := x3.trans e4
    refine q_asg (v := .int (t : Int)) (ev_is (ev_op (x := .int (y3 / 26)) (ev_op (x := .int y3) (y := .int 26) (ix x4 rfl rfl g3) ev_c (rv_I ⟨by decide, by decide⟩)) ev_c (rv_I (by decide))) (by rw [ht])) (fun H5 e5 => ?_)
    have x5 := x4.trans e5
    refine q_asgL (xs := (rotN c t).map V.str) (el_is (el_catLL (el_sl (ev_var rfl) (eo_some (ev_var rfl)) eo_none (sq_of (e5 _ _ h4))) (el_sl (ev_var rfl) eo_none (eo_some (ev_var rfl)) (sq_of (e5 _ _ h4))) (by
      have l1 := cutV_length [.str (nmX c 48), .str (nmX c 49), .str (nmX c 50)] (some (t : Int)) none
      have l2 := cutV_length [.str (nmX c 48), .str (nmX c 49), .str (nmX c 50)] none (some (t : Int))
      rw [sizeLine_eq]
      have l3 : [V.str (nmX c 48), .str (nmX c 49), .str (nmX c 50)].length = 3 := rfl
      omega)) (rot_cut ht2)) (fun u H6 hu e6 h6 => ?_)
    have x6 := x5.trans e6
    refine es_word (E := fun _ => E0) (σ := [some (.ref rl), some (.int (k : Int)), some (.ref b), some (.int (1 + (j : Int))), some (.int (y1 / 4 % (1 + (j : Int)))), some (.str ⟨#[c]⟩), some (.ref u), some (.int (t : Int))]) (d := y0) (ea_cons (ev_op (ev_var rfl) (ev_var rfl) (rv_ixL (sq_of (x6 _ _ hrl)) g0)) ea_nil) H6 (Ex.refl H6) _ (fun v7 H7 e7 ⟨ch, hv7, hch, _⟩ => ?_)
    subst hv7
    refine ⟨_, rfl, _, rfl, ?_⟩
    refine es_opd (E := fun _ => E0) (σ := [some (.ref rl), some (.int (k : Int)), some (.ref b), some (.int (1 + (j : Int))), some (.int (y1 / 4 % (1 + (j : Int)))), some (.str ⟨#[c]⟩), some (.ref u), some (.int (t : Int))]) (H := H7) (d := y2) (ea_cons (ix (x6.trans e7) rfl rfl g2) ea_nil) b2 c2 H7 (Ex.refl H7) _ (fun v8 H8 e8 ⟨op, hv8, hop⟩ => ?_)
    subst hv8
    have x8 := (x6.trans e7).trans e8
    have h8 := (e7.trans e8) _ _ h6
    refine el_is (el_sl (K := K) (σ := [some (.ref rl), some (.int (k : Int)), some (.ref b), some (.int (1 + (j : Int))), some (.int (y1 / 4 % (1 + (j : Int)))), some (.str ⟨#[c]⟩), some (.ref u), some (.int (t : Int))]) (H := H8) (lo := none) (hi := some (j : Int)) (ev_var (i := 6) rfl) eo_none (eo_some (ev_is (ev_op (r := rI0 fun i j => .int (i - j)) (ev_var (i := 3) rfl) (ev_c (v := .int 1)) rv_I0) (by show V.int (1 + (j : Int) - 1) = _; rw [show 1 + (j : Int) - 1 = (j : Int) by omega]))) (sq_of h8)) (take_cut ht2 hj3) H8 (Ex.refl H8) _ (fun u9 H9 hu9 e9 h9 => ?_)
    refine ⟨_, rfl, by show 6 ≤ sizeLine; decide, fun o ho => ?_⟩
    have x9 := x8.trans e9
    have mt : t ∈ [0, 1, 2] := by
      have : t = 0 ∨ t = 1 ∨ t = 2 := by omega
      rcases this with rfl | rfl | rfl <;> decide
    have mj : j ∈ [0, 1, 2, 3] := by
      have : j = 0 ∨ j = 1 ∨ j = 2 ∨ j = 3 := by omega
      rcases this with rfl | rfl | rfl | rfl <;> decide
    refine q ch (y1 / 4 % (1 + (j : Int))) (1 + (j : Int)) op ((rotN c t).take j) o u9 _ (fresh_back x9 ho) (fresh_back x8 hu9) (x9.trans (Ex.new ho)) upd_same ((Ex.new ho) _ _ h9) ⟨hch, by omega, by omega, s0, s1, hop, by rw [rot_len ht2 hj3]; omega, rot_ok c mc t mt j mj, fun y hy => ?_⟩
    obtain ⟨dd, hdd, rfl⟩ := rot_mem hy
    exact nm_ok c mc dd hdd
end
end Fs

set_option Elab.async false
set_option linter.all false
set_option maxRecDepth 100000
set_option maxHeartbeats 8000000
namespace Fs
open PySem L2 Evl FsE FsC FsR FsT FsK
mutual
/-- a process as the law writes it down: tuples and lists -/
def TrAt (H : Hp) (a : Addr) : Pr → Prop
  | .choice os => ∃ l xs, H a = some (.tup [.str "choice", .ref l]) ∧ H l = some (.lst xs) ∧ OfsTr H xs os
  | .new n k r => ∃ b, H a = some (.tup [.str "new", .str n, .int k, .ref b]) ∧ TrAt H b r
  | .cond l r y n => ∃ b c, H a = some (.tup [.str "if", l.v, r.v, .ref b, .ref c]) ∧ TrAt H b y ∧ TrAt H c n
  | .call n ops => ∃ u, H a = some (.tup [.str "call", .str n, .ref u]) ∧ H u = some (.lst (ops.map Opd.v))
def OfsTr (H : Hp) (ps : List V) : Ofs → Prop
  | .nil => ps = []
  | .cons c s m op ns r os => ∃ o u b qs, ps = .ref o :: qs ∧ H o = some (.tup [.str c, .int s, .int m, op.v, .ref u, .ref b]) ∧ H u = some (.lst (ns.map V.str)) ∧ TrAt H b r ∧ OfsTr H qs os
end
mutual
theorem TrAt.ex {H H' : Hp} (e : Ex H H') : ∀ {p : Pr} {a : Addr}, TrAt H a p → TrAt H' a p
  | .choice os, a, h => by
    unfold TrAt at h ⊢
    obtain ⟨l, xs, h1, h2, h3⟩ := h
    exact ⟨l, xs, e _ _ h1, e _ _ h2, OfsTr.ex e h3⟩
  | .new n k r, a, h => by
    unfold TrAt at h ⊢
    obtain ⟨b, h1, h2⟩ := h
    exact ⟨b, e _ _ h1, TrAt.ex e h2⟩
  | .cond l r y n, a, h => by
    unfold TrAt at h ⊢
    obtain ⟨b, c, h1, h2, h3⟩ := h
    exact ⟨b, c, e _ _ h1, TrAt.ex e h2, TrAt.ex e h3⟩
  | .call n ops, a, h => by
    unfold TrAt at h ⊢
    obtain ⟨u, h1, h2⟩ := h
    exact ⟨u, e _ _ h1, e _ _ h2⟩
theorem OfsTr.ex {H H' : Hp} (e : Ex H H') : ∀ {os : Ofs} {ps : List V}, OfsTr H ps os → OfsTr H' ps os
  | .nil, ps, h => by
    unfold OfsTr at h ⊢
    exact h
  | .cons c s m op ns r os, ps, h => by
    unfold OfsTr at h ⊢
    obtain ⟨o, u, b, qs, h1, h2, h3, h4, h5⟩ := h
    exact ⟨o, u, b, qs, h1, e _ _ h2, e _ _ h3, TrAt.ex e h4, OfsTr.ex e h5⟩
end
/-- what is new in H' beside H -/
def Nw (H H' : Hp) : Hp := fun a => match H a with
  | none => H' a
  | some _ => none
theorem nw_in {H H' : Hp} {a : Addr} {o : HO} (h : H a = none) (g : H' a = some o) : Nw H H' a = some o := by
  unfold Nw
  rw [h]
  exact g
theorem nw_out {H H' : Hp} {a : Addr} {o : HO} (g : Nw H H' a = some o) : H a = none ∧ H' a = some o := by
  unfold Nw at g
  cases h : H a with
  | none =>
    rw [h] at g
    exact ⟨rfl, g⟩
  | some x =>
    rw [h] at g
    cases g
theorem nw_ex {H H' H'' : Hp} (e : Ex H' H'') : Ex (Nw H H') (Nw H H'') := fun a o g => nw_in (nw_out g).1 (e _ _ (nw_out g).2)
theorem nw_up {H H1 H' : Hp} (e : Ex H H1) : Ex (Nw H1 H') (Nw H H') := fun a o g => nw_in (fresh_back e (nw_out g).1) (nw_out g).2
theorem nw_all {H H' : Hp} : Ex (Nw H H') H' := fun a o g => (nw_out g).2
mutual
/-- allowed, but for depth and size -/
def AlP : Pr → Prop
  | .choice os => os.len ≤ 6 ∧ AlO os
  | .new n k r => WordOk n ∧ 1 ≤ k ∧ k ≤ 4 ∧ AlP r
  | .cond l r y n => OpdOk l ∧ OpdOk r ∧ AlP y ∧ AlP n
  | .call n ops => WordOk n ∧ ops.length ≤ 4 ∧ ∀ o ∈ ops, OpdOk o
def AlO : Ofs → Prop
  | .nil => True
  | .cons c s m op ns r os => OfOk c s m op ns ∧ AlP r ∧ AlO os
end
def szB : Nat → Int
  | 0 => 0
  | 1 => 1
  | n + 2 => 2 * (szB (n + 1) + 1)
theorem szB_pos : ∀ n, 1 ≤ szB (n + 1)
  | 0 => by show (1 : Int) ≤ 1; decide
  | n + 1 => by
    have := szB_pos n
    show 1 ≤ 2 * (szB (n + 1) + 1)
    omega
/-- the first node of a level; the leaves are level 1 -/
def lf : Nat → Nat
  | 0 => 7
  | 1 => 3
  | 2 => 1
  | _ => 0
/-- what the law may write at level h -/
structure TrOk (h : Nat) (p : Pr) : Prop where
  al : AlP p
  dep : p.depth ≤ (h : Int)
  siz : p.size ≤ szB h
def spTerm (h : Nat) : Sp := fun vs H Q _ => ∃ (rl : Addr) (row : List Int) (n : Nat), vs = [.ref rl, .int (n : Int)] ∧ H rl = some (.lst (row.map V.int)) ∧ RowOk row ∧ row.length = 63 ∧ 1 ≤ h ∧ h ≤ 3 ∧ lf h ≤ n ∧ n ≤ 2 * lf h ∧
  ∀ a p H', H a = none → Ex H H' → TrAt (Nw H H') a p → TrOk h p → Q (.ref a) H'
theorem ok_stop1 {h : Nat} (h1 : 1 ≤ h) : TrOk h (.choice .nil) := by
  have hs : 1 ≤ szB h := by
    obtain ⟨k, rfl⟩ : ∃ k, h = k + 1 := ⟨h - 1, by omega⟩
    exact szB_pos k
  refine ⟨?_, ?_, ?_⟩
  · unfold AlP AlO
    exact ⟨by decide, trivial⟩
  · rw [Pr.depth, Ofs.depth]
    omega
  · rw [Pr.size, Ofs.sum]
    show max 1 ((0 : Nat) : Int) + 0 ≤ _
    omega
theorem ok_call1 {h : Nat} (h1 : 1 ≤ h) {z : Str} {ops : List Opd} (hz : WordOk z) (hl : ops.length ≤ 4) (ho : ∀ o ∈ ops, OpdOk o) : TrOk h (.call z ops) := by
  have hs : 1 ≤ szB h := by
    obtain ⟨k, rfl⟩ : ∃ k, h = k + 1 := ⟨h - 1, by omega⟩
    exact szB_pos k
  refine ⟨?_, ?_, ?_⟩
  · unfold AlP
    exact ⟨hz, hl, ho⟩
  · rw [Pr.depth]
    omega
  · rw [Pr.size]
    omega
theorem szB_up {h : Nat} (h1 : 1 ≤ h) : szB (h + 1) = 2 * (szB h + 1) := by
  obtain ⟨k, rfl⟩ : ∃ k, h = k + 1 := ⟨h - 1, by omega⟩
  rfl
theorem ok_new1 {h : Nat} (h1 : 1 ≤ h) {z : Str} {k : Int} {r : Pr} (hz : WordOk z) (k1 : 1 ≤ k) (k4 : k ≤ 4) (hr : TrOk h r) : TrOk (h + 1) (.new z k r) := by
  have e := szB_up h1
  have d := hr.dep
  have s := hr.siz
  have dp := Pr.depth_pos r
  have sz : 1 ≤ szB h := by
    obtain ⟨k, rfl⟩ : ∃ k, h = k + 1 := ⟨h - 1, by omega⟩
    exact szB_pos k
  refine ⟨?_, ?_, ?_⟩
  · unfold AlP
    exact ⟨hz, k1, k4, hr.al⟩
  · rw [Pr.depth]
    omega
  · rw [Pr.size, e]
    omega
theorem ok_cond1 {h : Nat} (h1 : 1 ≤ h) {l r : Opd} {y n : Pr} (hl : OpdOk l) (hr : OpdOk r) (hy : TrOk h y) (hn : TrOk h n) : TrOk (h + 1) (.cond l r y n) := by
  have e := szB_up h1
  have d := hy.dep
  have s := hy.siz
  have d2 := hn.dep
  have s2 := hn.siz
  refine ⟨?_, ?_, ?_⟩
  · unfold AlP
    exact ⟨hl, hr, hy.al, hn.al⟩
  · rw [Pr.depth]
    omega
  · rw [Pr.size, e]
    omega
theorem ok_off1 {h : Nat} (h1 : 1 ≤ h) {c : Str} {s m : Int} {op : Opd} {ns : List Str} {r : Pr} (ho : OfOk c s m op ns) (hr : TrOk h r) : TrOk (h + 1) (.choice (.cons c s m op ns r .nil)) := by
  have e := szB_up h1
  have d := hr.dep
  have s := hr.siz
  have sz : 1 ≤ szB h := by
    obtain ⟨k, rfl⟩ : ∃ k, h = k + 1 := ⟨h - 1, by omega⟩
    exact szB_pos k
  refine ⟨?_, ?_, ?_⟩
  · unfold AlP AlO AlO
    exact ⟨by show 1 ≤ 6; decide, ho, hr.al, trivial⟩
  · rw [Pr.depth, Ofs.depth, Ofs.depth]
    omega
  · rw [Pr.size, Ofs.sum, Ofs.sum, e]
    show max 1 ((1 : Nat) : Int) + (r.size + 0) ≤ _
    omega
theorem ok_off2 {h : Nat} (h1 : 1 ≤ h) {c c' : Str} {s m s' m' : Int} {op op' : Opd} {ns ns' : List Str} {r r' : Pr} (ho : OfOk c s m op ns) (ho' : OfOk c' s' m' op' ns') (hr : TrOk h r) (hr' : TrOk h r') : TrOk (h + 1) (.choice (.cons c s m op ns r (.cons c' s' m' op' ns' r' .nil))) := by
  have e := szB_up h1
  have d := hr.dep
  have s := hr.siz
  have d2 := hr'.dep
  have s2 := hr'.siz
  refine ⟨?_, ?_, ?_⟩
  · unfold AlP AlO AlO AlO
    exact ⟨by show 2 ≤ 6; decide, ho, hr.al, ho', hr'.al, trivial⟩
  · rw [Pr.depth, Ofs.depth, Ofs.depth, Ofs.depth]
    omega
  · rw [Pr.size, Ofs.sum, Ofs.sum, Ofs.sum, e]
    show max 1 ((2 : Nat) : Int) + (r.size + (r'.size + 0)) ≤ _
    omega
section
variable {σ : L2.St} {H : Hp} {ta te : TE} {tas tn : TA} {E : L2.St → XK}
/-- operands drawn one by one -/
theorem es_lcO {j : Nat} {vs : List Nat} {n : Int} (h : EvA tn σ H [.int n]) (hn : 0 ≤ n ∧ n ≤ 100) (hw : ∀ x, wipe ((wipe σ vs).set j (some x)) vs = wipe σ vs)
    (he : ∀ (i : Nat) H1, Ex H H1 → (i : Int) < n → EvS te ((wipe σ vs).set j (some (.int (i : Int)))) H1 (fun v _ => ∃ o : Opd, v = o.v ∧ OpdOk o)) :
    EvS (tLc (iRng1 tn) (gName j) tYes te vs) σ H (fun v H' => ∃ (l : Addr) (ops : List Opd), v = .ref l ∧ H l = none ∧ H' l = some (.lst (ops.map Opd.v)) ∧ (ops.length : Int) = n ∧ ∀ o ∈ ops, OpdOk o) := fun H0 e0 Q q =>
  h H0 e0 _ fun H1 e1 => ⟨n, rfl, by omega, by omega, fun Dl hD => lc_range (lo := 0) (n := n.toNat) (fun m H' => ∃ ops : List Opd, H' Dl = some (.lst (ops.map Opd.v)) ∧ ops.length = m ∧ (∀ o ∈ ops, OpdOk o) ∧ Ex H1 H') ⟨[], upd_same, rfl, (fun _ z => nomatch z), Ex.new hD⟩
    (fun m H' hm ⟨ops, g1, g2, g3, g4⟩ => by
      have z0 : (0 : Int) + (m : Int) = (m : Int) := Int.zero_add _
      rw [z0]
      refine ⟨hw _, he m H' ((e0.trans e1).trans g4) (by omega) H' (Ex.refl H') _ fun v H4 e4 ⟨o, hv, ho⟩ => ?_⟩
      subst hv
      refine ⟨ops.map Opd.v, e4 _ _ g1, sz_lt (by rw [List.length_map]; omega), ops ++ [o], ?_, by rw [List.length_append, g2]; rfl, fun x hx => ?_, Ex.mut (g4.trans e4) hD⟩
      · rw [List.map_append]
        exact upd_same
      · rcases List.mem_append.mp hx with hx | hx
        · exact g3 x hx
        · rw [List.mem_singleton.mp hx]
          exact ho)
    (fun H' ⟨ops, g1, g2, g3, g4⟩ => q (.ref Dl) H' (e1.trans g4) ⟨Dl, ops, rfl, fresh_back (e0.trans e1) hD, g1, by omega, g3⟩)⟩
theorem es_term {h : Nat} {rl : Addr} {row : List Int} {n : Nat} (ha : EvA tas σ H [.ref rl, .int (n : Int)]) (hl : H rl = some (.lst (row.map V.int))) (hr : RowOk row) (hz : row.length = 63) (h1 : 1 ≤ h) (h4 : h ≤ 3) (l0 : lf h ≤ n) (l1 : n ≤ 2 * lf h) :
    EvS (tCallS (spTerm h) E tas) σ H (fun v H' => ∃ a p, v = .ref a ∧ TrAt (Nw H H') a p ∧ TrOk h p) := fun H1 e1 Q q =>
  ha H1 e1 _ fun H2 e2 => ⟨rl, row, n, rfl, (e1.trans e2) _ _ hl, hr, hz, h1, h4, l0, l1, fun a p H3 _ e3 ht hp => q (.ref a) H3 (e2.trans e3) ⟨a, p, rfl, ht.ex (nw_up (e1.trans e2)), hp⟩⟩
end
end Fs

set_option Elab.async false
set_option linter.all false
set_option maxRecDepth 100000
set_option maxHeartbeats 8000000
namespace Fs
open PySem L2 Evl FsE FsC FsR FsT FsK
theorem lf_up {h : Nat} (h1 : 1 ≤ h) (h4 : h + 1 ≤ 3) : lf h = 2 * lf (h + 1) + 1 := by
  have : h = 1 ∨ h = 2 := by omega
  rcases this with rfl | rfl <;> rfl
theorem lf_top {h : Nat} (h1 : 1 ≤ h) (h4 : h ≤ 3) : lf h ≤ 3 ∧ (3 ≤ lf h → h = 1) ∧ (h = 1 → lf h = 3) := by
  have : h = 1 ∨ h = 2 ∨ h = 3 := by omega
  rcases this with rfl | rfl | rfl <;> decide
section
variable {σ : L2.St} {H : Hp} {ta te tb : TE} {tas : TA} {tz : TS} {D : Ends} {K : PySem.W.Frag} {E : L2.St → XK}
/-- [offer] -/
theorem q_off1 {i : Nat} {rl b : Addr} {row : List Int} {k : Nat} (ha : EvA tas σ H [.ref rl, .int (k : Int), .ref b]) (hl : H rl = some (.lst (row.map V.int))) (hr : RowOk row) (hk : k + 3 < row.length) (h1000 : k ≤ 1000)
    (kk : ∀ ch s m op ns o u l H1 H2, Ex H H1 → H1 o = some (.tup [.str ch, .int s, .int m, Opd.v op, .ref u, .ref b]) → H1 u = some (.lst (ns.map V.str)) → OfOk ch s m op ns → H o = none → H u = none → H1 l = none → H2 = upd H1 l (.lst [.ref o]) → tz D (σ.set i (some (.ref l))) H2) :
    tSeq (tAsg (tLst (tCons (tCallS spLOffer E tas) tNil)) (gName i)) tz D σ H :=
  ha H (Ex.refl H) _ fun H1 e1 => ⟨rl, row, k, b, rfl, e1 _ _ hl, hr, hk, h1000, fun ch s m op ns o u H2 no nu e2 h2 h3 ok => ⟨by show 1 ≤ sizeLine; decide, fun l hln => kk ch s m op ns o u l H2 _ (e1.trans e2) h2 h3 ok (fresh_back e1 no) (fresh_back e1 nu) hln rfl⟩⟩
/-- l.append(offer) -/
theorem s_off2 {rl b l : Addr} {row : List Int} {k : Nat} {xs : List V} (hx : H l = some (.lst xs)) (hz : xs.length ≤ 100) (ht : Ev ta σ H (.ref l)) (ha : EvA tas σ H [.ref rl, .int (k : Int), .ref b]) (hl : H rl = some (.lst (row.map V.int))) (hr : RowOk row) (hk : k + 3 < row.length) (h1000 : k ≤ 1000)
    (kk : ∀ ch s m op ns o u H1, Ex H H1 → H1 o = some (.tup [.str ch, .int s, .int m, Opd.v op, .ref u, .ref b]) → H1 u = some (.lst (ns.map V.str)) → OfOk ch s m op ns → H o = none → H u = none → o ≠ l → u ≠ l → D.nx σ (upd H1 l (.lst (xs ++ [.ref o])))) :
    tDrop (tBM K "list" rAppend ta (tCons (tCallS spLOffer E tas) tNil)) D σ H := ht H (Ex.refl H) _ fun H1 e1 =>
  ⟨Or.inl ⟨rfl, xs, sq_of (e1 _ _ hx)⟩, ha H1 e1 _ fun H2 e2 => ⟨rl, row, k, b, rfl, (e1.trans e2) _ _ hl, hr, hk, h1000, fun ch s m op ns o u H3 no nu e3 h2 h3 ok => by
    have hl2 := (e1.trans e2) _ _ hx
    have o1 : o ≠ l := fun z => by rw [z, hl2] at no; cases no
    have u1 : u ≠ l := fun z => by rw [z, hl2] at nu; cases nu
    exact ⟨l, xs, .ref o, rfl, rfl, e3 _ _ hl2, sz_lt (by omega), kk ch s m op ns o u H3 ((e1.trans e2).trans e3) h2 h3 ok (fresh_back (e1.trans e2) no) (fresh_back (e1.trans e2) nu) o1 u1⟩⟩⟩
end
section
variable {P : Program} {w : World} {K : PySem.W.Frag} {mg : Str → Option Value} {base : Heap} {C CB : Addr}
abbrev nsTerm : List Str := ["_law_row_here", "_law_node", "_law_at", "_law_kind", "_law_operands", "_law_first", "_law_other", "_law_offers", "_law_k"]
theorem scTerm : FnScope nsTerm ["_law_row_here", "_law_node"] (defScope (topS 38)) := ⟨rfl, rfl, rfl, by decide +kernel, rfl, by decide +kernel, by decide +kernel⟩
theorem ok_term {f : Addr} {fd : FuncData} (F : Fun K "_law_term" "_law_term" (topS 38) f fd) (L : LawT K mg) (GW : CalX P w K mg base CX0 1 "_law_word" spWordX) (GO : CalX P w K mg base CX0 2 "_law_operand" spOperand) (GF : CalX P w K mg base CX0 3 "_law_offer" spLOffer)
    (hm : mg "_law_term" = some (.ref f)) (kp : PySem.W.keepIn K (.ref f) = true) (bd : Binds K fd ["_law_row_here", "_law_node"] []) : ∀ h : Nat, FnOk P w K mg base CX0 (4 + h) f fd ["_law_row_here", "_law_node"] (spTerm h)
  | 0 => by
    refine F.ok scTerm (fun vs H Q E h => ?_) (fun cdv A outer s H vs Q E hr h => ?_)
    · obtain ⟨rl, row, n, rfl, _⟩ := h
      rfl
    · obtain ⟨rl, row, n, rfl, _, _, _, h1, _⟩ := h
      exact absurd h1 (by decide)
  | h + 1 => by
    have ih := ok_term F L GW GO GF hm kp bd h
    have GT : CalX P w K mg base CX0 (4 + h) "_law_term" (spTerm h) := ⟨f, fd, _, ih, hm, kp, bd⟩
    refine F.ok (k := 4 + h) scTerm (fun vs H Q E h => ?_) (fun cdv A outer s H vs Q E hr hh => ?_)
    · obtain ⟨rl, row, n, rfl, _⟩ := h
      rfl
    · obtain ⟨rl, row, n, rfl, hrl, hrow, hlen, h1, h4, n0, n1, q⟩ := hh
      refine ⟨_, pss_cons (ps_set (i := 2) scTerm.nd rfl (Or.inr rfl) (pe_op op_mul pe_int (pv 1)))
        (pss_cons (ps_set (i := 3) scTerm.nd rfl (Or.inl rfl) (pe_op op_mod (pe_callTy call_int1 (by rfl) L.int (by decide +kernel) (pa_cons (pe_ix ix_list (pv 0) (pv 2) (fun _ _ => rfl)) pa_nil)) pe_int))
        (pss_cut (ps_if (pt_cmpR op_ge (pv 1) pe_int (nomark _)) (pss_one (ps_set (i := 3) scTerm.nd rfl (Or.inl rfl) (pe_op op_mod (pe_callTy call_int1 (by rfl) L.int (by decide +kernel) (pa_cons (pe_ix ix_list (pv 0) (pv 2) (fun _ _ => rfl)) pa_nil)) pe_int))) pss_nil)
        (pss_cons (ps_if (pt_cmpR op_eq (pv 3) pe_int (nomark _)) (pss_one (ps_ret (pe_tup (pa_cons pe_str (pa_cons (pe_lst pa_nil) pa_nil))))) pss_nil)
        (pss_cons (ps_if (pt_cmpR op_eq (pv 3) pe_int (nomark _))
          (pss_cons (ps_setLc (i := 4) (own := [("_law_k", 8)]) (g := gName 8) (tt := tYes) (te := tCallS spOperand (fun _ => E0) (tCons (tOp (rIxL K) (tVar 0) (tOp (rI0 fun i j => .int (i + j)) (tOp (rI0 fun i j => .int (i + j)) (tVar 2) (tC (.int 2))) (tVar 8))) tNil)) rfl scTerm.nd rfl rfl (sw_true rfl rfl rfl (by decide +kernel))
              (pi_range1 rfl L.range (pa_cons (pe_op op_mod (pe_op op_fdiv (pe_ix ix_list (pv 0) (pv 2) (fun _ _ => rfl)) pe_int) pe_int) pa_nil)) (blkOk_by (own := [("_law_k", 8)]) (N := nsTerm) (sc := defScope (topS 38)) (by decide +kernel))
              (fun _ _ _ _ _ => pg_name (i := 8) scTerm.nd rfl (Or.inl rfl)) (fun _ _ _ _ _ => pts_nil)
              (fun _ _ _ _ _ => pe_cx (E := fun _ => E0) GO hr (by omega) (by rfl) at0 (pa_cons (pe_ix ix_list (pv 0) (pe_op op_add (pe_op op_add (pv 2) pe_int) (pv 8)) (fun _ _ => rfl)) pa_nil)))
            (pss_one (ps_ret (pe_tup (pa_cons pe_str (pa_cons (pe_cx (E := fun _ => E0) GW hr (by omega) (by rfl) at0 (pa_cons (pe_ix ix_list (pv 0) (pe_op op_add (pv 2) pe_int) (fun _ _ => rfl)) pa_nil)) (pa_cons (pv 4) pa_nil))))))) pss_nil)
        (pss_cons (ps_set (i := 5) scTerm.nd rfl (Or.inl rfl) (pe_cx (E := fun _ => E0) GT hr (Nat.le_refl _) (by rfl) at0 (pa_cons (pv 0) (pa_cons (pe_op op_add (pe_op op_mul pe_int (pv 1)) pe_int) pa_nil))))
        (pss_cons (ps_if (pt_cmpR op_eq (pv 3) pe_int (nomark _)) (pss_one (ps_ret (pe_tup (pa_cons pe_str (pa_cons (pe_cx (E := fun _ => E0) GW hr (by omega) (by rfl) at0 (pa_cons (pe_ix ix_list (pv 0) (pe_op op_add (pv 2) pe_int) (fun _ _ => rfl)) pa_nil))
            (pa_cons (pe_op op_add pe_int (pe_op op_mod (pe_callTy call_int1 (by rfl) L.int (by decide +kernel) (pa_cons (pe_ix ix_list (pv 0) (pe_op op_add (pv 2) pe_int) (fun _ _ => rfl)) pa_nil)) pe_int)) (pa_cons (pv 5) pa_nil))))))) pss_nil)
        (pss_cons (ps_set (i := 6) scTerm.nd rfl (Or.inl rfl) (pe_cx (E := fun _ => E0) GT hr (Nat.le_refl _) (by rfl) at0 (pa_cons (pv 0) (pa_cons (pe_op op_add (pe_op op_mul pe_int (pv 1)) pe_int) pa_nil))))
        (pss_cons (ps_if (pt_cmpR op_eq (pv 3) pe_int (nomark _)) (pss_one (ps_ret (pe_tup (pa_cons pe_str (pa_cons (pe_cx (E := fun _ => E0) GO hr (by omega) (by rfl) at0 (pa_cons (pe_ix ix_list (pv 0) (pe_op op_add (pv 2) pe_int) (fun _ _ => rfl)) pa_nil))
            (pa_cons (pe_cx (E := fun _ => E0) GO hr (by omega) (by rfl) at0 (pa_cons (pe_ix ix_list (pv 0) (pe_op op_add (pv 2) pe_int) (fun _ _ => rfl)) pa_nil)) (pa_cons (pv 5) (pa_cons (pv 6) pa_nil)))))))) pss_nil)
        (pss_cons (ps_set (i := 7) scTerm.nd rfl (Or.inl rfl) (pe_lst (pa_cons (pe_cx (E := fun _ => E0) GF hr (by omega) (by rfl) at0 (pa_cons (pv 0) (pa_cons (pe_op op_add (pv 2) pe_int) (pa_cons (pv 5) pa_nil)))) pa_nil)))
        (pss_cut (ps_if (pt_cmpR op_eq (pv 3) pe_int (nomark _)) (pss_one (ps_expr (pe_bm PySem.F.plainAttrs_list PySem.F.slot_list_append PySem.F.type_list_append mt_append (pv 7) (pa_cons (pe_cx (E := fun _ => E0) GF hr (by omega) (by rfl) at0 (pa_cons (pv 0) (pa_cons (pe_op op_add (pv 2) pe_int) (pa_cons (pv 6) pa_nil)))) pa_nil)))) pss_nil)
        (pss_one (ps_ret (pe_tup (pa_cons pe_str (pa_cons (pv 7) pa_nil))))))))))))))), ?_⟩
      have t7 := lf_top (h := h + 1) (by omega) h4
      have hn14 : n ≤ 6 := by omega
      have gt : ∀ j : Nat, j ≤ 8 → ∃ v, atI (row.map V.int) (9 * (n : Int) + (j : Int)) = some (.int v) ∧ 0 ≤ v ∧ v < 1000 := fun j hj => by
        obtain ⟨v, g, b, c⟩ := row_getN hlen hrow (i := 9 * n + j) (by omega)
        rw [show ((9 * n + j : Nat) : Int) = 9 * (n : Int) + (j : Int) by omega] at g
        exact ⟨v, g, b, c⟩
      obtain ⟨y0, g0, b0, c0⟩ := gt 0 (by decide)
      obtain ⟨y1, g1, b1, c1⟩ := gt 1 (by decide)
      obtain ⟨y2, g2, b2, c2⟩ := gt 2 (by decide)
      rw [show 9 * (n : Int) + ((0 : Nat) : Int) = 9 * (n : Int) by omega] at g0
      have ix0 : ∀ {H9 : Hp} {σ9 : L2.St}, Ex H H9 → σ9[0]? = some (some (.ref rl)) → σ9[2]? = some (some (.int (9 * (n : Int)))) → Ev (tOp (rIxL K) (tVar 0) (tVar 2)) σ9 H9 (.int y0) := fun e9 s0 s2 => ev_op (ev_var s0) (ev_var s2) (rv_ixL (sq_of (e9 _ _ hrl)) g0)
      have ix1 : ∀ {H9 : Hp} {σ9 : L2.St}, Ex H H9 → σ9[0]? = some (some (.ref rl)) → σ9[2]? = some (some (.int (9 * (n : Int)))) → Ev (tOp (rIxL K) (tVar 0) (tOp (rI0 fun i j => .int (i + j)) (tVar 2) (tC (.int 1)))) σ9 H9 (.int y1) := fun e9 s0 s2 => ev_op (ev_var s0) (ev_op (ev_var s2) ev_c rv_I0) (rv_ixL (sq_of (e9 _ _ hrl)) g1)
      have ix2 : ∀ {H9 : Hp} {σ9 : L2.St}, Ex H H9 → σ9[0]? = some (some (.ref rl)) → σ9[2]? = some (some (.int (9 * (n : Int)))) → Ev (tOp (rIxL K) (tVar 0) (tOp (rI0 fun i j => .int (i + j)) (tVar 2) (tC (.int 2)))) σ9 H9 (.int y2) := fun e9 s0 s2 => ev_op (ev_var s0) (ev_op (ev_var s2) ev_c rv_I0) (rv_ixL (sq_of (e9 _ _ hrl)) g2)
      refine q_asg (v := .int (9 * (n : Int))) (ev_op ev_c (ev_var rfl) (rv_I (.inl ⟨by decide, by decide⟩))) (fun H1 e1 => ?_)
      refine q_asg (v := .int (y0 % 6)) (ev_op (x := .int y0) (ev_cb (ea_cons (ix0 e1 rfl rfl) ea_nil) (rc_int (K := K))) ev_c (rv_I (by decide))) (fun H2 e2 => ?_)
      refine q_cut (M := fun σ' H' => ∃ kd : Int, σ' = [some (.ref rl), some (.int (n : Int)), some (.int (9 * (n : Int))), some (.int kd), none, none, none, none, none] ∧ Ex H H' ∧ 0 ≤ kd ∧ kd < 6 ∧ (3 ≤ n → kd < 2)) ?_ (fun σ3 H3 ⟨kd, hσ, x3, kd0, kd6, kd7⟩ => ?_)
      · refine s_when (b := decide ((n : Int) ≥ 3)) (et_test (ev_op (ev_var rfl) ev_c rv_I0)) (fun hb H3 e3 => ?_) (fun hb H3 e3 => ?_)
        · exact s_asg (v := .int (y0 % 2)) (ev_op (x := .int y0) (ev_cb (ea_cons (ix0 ((e1.trans e2).trans e3) rfl rfl) ea_nil) (rc_int (K := K))) ev_c (rv_I (by decide))) (fun H4 e4 => ⟨y0 % 2, rfl, ((e1.trans e2).trans e3).trans e4, by omega, by omega, fun _ => by omega⟩)
        · have hb' : ¬ (n : Int) ≥ 3 := of_decide_eq_false hb
          exact ⟨y0 % 6, rfl, (e1.trans e2).trans e3, by omega, by omega, fun z => absurd (by omega : (n : Int) ≥ 3) hb'⟩
      subst hσ
      refine q_when (b := decide (V.int kd = V.int 0)) (et_test (ev_op (ev_var rfl) ev_c (rv_eq rfl))) (fun _ H4 e4 => ?_) (fun hb0 H4 e4 => ?_)
      · have x4 := x3.trans e4
        refine ⟨by show 0 ≤ sizeLine; decide, fun l hl => ⟨by show 2 ≤ sizeLine; decide, fun a ha => q a (.choice .nil) _ (fresh_back x4 (fresh_back (Ex.new hl) ha)) (x4.trans ((Ex.new hl).trans (Ex.new ha))) ?_ (ok_stop1 h1)⟩⟩
        unfold TrAt OfsTr
        exact ⟨l, [], nw_in (fresh_back x4 (fresh_back (Ex.new hl) ha)) upd_same, nw_in (fresh_back x4 hl) ((Ex.new ha) _ _ upd_same), rfl⟩
      have k0 : ¬ kd = 0 := fun z => by rw [z] at hb0; exact absurd hb0 (by decide)
      have x4 := x3.trans e4
      refine q_when (b := decide (V.int kd = V.int 1)) (et_test (ev_op (ev_var rfl) ev_c (rv_eq rfl))) (fun _ H5 e5 => ?_) (fun hb1 H5 e5 => ?_)
      · have x5 := x4.trans e5
        refine q_asgS (es_lcO (n := y0 / 6 % 5) (ea_cons (ev_op (x := .int (y0 / 6)) (ev_op (x := .int y0) (y := .int 6) (ix0 x5 rfl rfl) ev_c (rv_I ⟨by decide, by decide⟩)) ev_c (rv_I (by decide))) ea_nil) (by omega) (fun _ => rfl) (fun i H6 e6 hi => ?_)) (fun v H6 e6 ⟨u, ops, hv, hun, hu, hol, hoo⟩ => ?_)
        · obtain ⟨v, g, b, c⟩ := gt (2 + i) (by omega)
          rw [show 9 * (n : Int) + ((2 + i : Nat) : Int) = 9 * (n : Int) + 2 + (i : Int) by omega] at g
          exact es_opd (d := v) (ea_cons (ev_op (ev_var rfl) (ev_op (ev_op (ev_var rfl) ev_c rv_I0) (ev_var rfl) rv_I0) (rv_ixL (sq_of ((x5.trans e6) _ _ hrl)) g)) ea_nil) b c
        · subst hv
          have x6 := x5.trans e6
          refine es_word (E := fun _ => E0) (σ := [some (.ref rl), some (.int (n : Int)), some (.int (9 * (n : Int))), some (.int kd), some (.ref u), none, none, none, none]) (d := y1) (ea_cons (ix1 x6 rfl rfl) ea_nil) H6 (Ex.refl H6) _ (fun v H7 e7 ⟨z, hv, hz, _⟩ => ?_)
          subst hv
          refine ⟨_, rfl, by show 3 ≤ sizeLine; decide, fun a ha => q a (.call z ops) _ (fresh_back (x6.trans e7) ha) ((x6.trans e7).trans (Ex.new ha)) ?_ (ok_call1 h1 hz (by omega) hoo)⟩
          unfold TrAt
          exact ⟨u, nw_in (fresh_back (x6.trans e7) ha) upd_same, nw_in (fresh_back x5 hun) ((Ex.new ha) _ _ (e7 _ _ hu))⟩
      have k1 : ¬ kd = 1 := fun z => by rw [z] at hb1; exact absurd hb1 (by decide)
      have x5 := x4.trans e5
      have hn7 : ¬ 3 ≤ n := fun z => by have := kd7 z; omega
      have hh1 : 1 ≤ h := by
        rcases Nat.eq_zero_or_pos h with z | z
        · subst z
          have := t7.2.2 rfl
          omega
        · exact z
      have lu := lf_up hh1 h4
      refine q_asgS (es_term (h := h) (n := 2 * n + 1) (ea_cons (ev_var rfl) (ea_cons (ev_is (ev_op (ev_op ev_c (ev_var rfl) (rv_I (.inl ⟨by decide, by decide⟩))) ev_c rv_I0) (by rw [show ((2 * n + 1 : Nat) : Int) = 2 * (n : Int) + 1 by omega])) ea_nil)) (x5 _ _ hrl) hrow hlen hh1 (by omega) (by omega) (by omega)) (fun v H6 e6 ⟨a1, p1, hv, t1, o1⟩ => ?_)
      subst hv
      have t1 := t1.ex (nw_up x5)
      have x6 := x5.trans e6
      refine q_when (b := decide (V.int kd = V.int 2)) (et_test (ev_op (ev_var rfl) ev_c (rv_eq rfl))) (fun _ H7 e7 => ?_) (fun hb2 H7 e7 => ?_)
      · have x7 := x6.trans e7
        refine es_word (E := fun _ => E0) (σ := [some (.ref rl), some (.int (n : Int)), some (.int (9 * (n : Int))), some (.int kd), none, some (.ref a1), none, none, none]) (d := y1) (ea_cons (ix1 x7 rfl rfl) ea_nil) H7 (Ex.refl H7) _ (fun v H8 e8 ⟨z, hv, hz, _⟩ => ?_)
        subst hv
        have x8 := x7.trans e8
        refine (ev_op (r := rI0 fun i j => .int (i + j)) (σ := [some (.ref rl), some (.int (n : Int)), some (.int (9 * (n : Int))), some (.int kd), none, some (.ref a1), none, none, none]) (x := .int 1) (y := .int (y2 % 4)) ev_c (ev_op (r := rI (fun _ j => 0 < j) fun i j => .int (i % j)) (x := .int y2) (y := .int 4) (ev_cb (ea_cons (ix2 x8 rfl rfl) ea_nil) (rc_int (K := K))) ev_c (rv_I (by decide))) rv_I0 : Ev _ _ H8 _) H8 (Ex.refl H8) _ (fun H9 e9 => ?_)
        refine ⟨_, rfl, by show 4 ≤ sizeLine; decide, fun a ha => q a (.new z (1 + y2 % 4) p1) _ (fresh_back (x8.trans e9) ha) ((x8.trans e9).trans (Ex.new ha)) ?_ (ok_new1 hh1 hz (by omega) (by omega) o1)⟩
        unfold TrAt
        exact ⟨a1, nw_in (fresh_back (x8.trans e9) ha) upd_same, t1.ex (nw_ex (((e7.trans e8).trans e9).trans (Ex.new ha)))⟩
      have k2 : ¬ kd = 2 := fun z => by rw [z] at hb2; exact absurd hb2 (by decide)
      have x7 := x6.trans e7
      refine q_asgS (es_term (h := h) (n := 2 * n + 2) (ea_cons (ev_var rfl) (ea_cons (ev_is (ev_op (ev_op ev_c (ev_var rfl) (rv_I (.inl ⟨by decide, by decide⟩))) ev_c rv_I0) (by rw [show ((2 * n + 2 : Nat) : Int) = 2 * (n : Int) + 2 by omega])) ea_nil)) (x7 _ _ hrl) hrow hlen hh1 (by omega) (by omega) (by omega)) (fun v H8 e8 ⟨a2, p2, hv, t2, o2⟩ => ?_)
      subst hv
      have t2 := t2.ex (nw_up x7)
      have x8 := x7.trans e8
      have t1' := t1.ex (nw_ex (e7.trans e8))
      refine q_when (b := decide (V.int kd = V.int 3)) (et_test (ev_op (ev_var rfl) ev_c (rv_eq rfl))) (fun _ H9 e9 => ?_) (fun hb3 H9 e9 => ?_)
      · have x9 := x8.trans e9
        refine es_opd (E := fun _ => E0) (σ := [some (.ref rl), some (.int (n : Int)), some (.int (9 * (n : Int))), some (.int kd), none, some (.ref a1), some (.ref a2), none, none]) (d := y1) (ea_cons (ix1 x9 rfl rfl) ea_nil) b1 c1 H9 (Ex.refl H9) _ (fun v H10 e10 ⟨l, hv, hl⟩ => ?_)
        subst hv
        refine es_opd (E := fun _ => E0) (σ := [some (.ref rl), some (.int (n : Int)), some (.int (9 * (n : Int))), some (.int kd), none, some (.ref a1), some (.ref a2), none, none]) (d := y2) (ea_cons (ix2 (x9.trans e10) rfl rfl) ea_nil) b2 c2 H10 (Ex.refl H10) _ (fun v H11 e11 ⟨r, hv, hr'⟩ => ?_)
        subst hv
        have x11 := (x9.trans e10).trans e11
        refine ⟨_, rfl, _, rfl, by show 5 ≤ sizeLine; decide, fun a ha => q a (.cond l r p1 p2) _ (fresh_back x11 ha) (x11.trans (Ex.new ha)) ?_ (ok_cond1 hh1 hl hr' o1 o2)⟩
        unfold TrAt
        exact ⟨a1, a2, nw_in (fresh_back x11 ha) upd_same, t1'.ex (nw_ex (((e9.trans e10).trans e11).trans (Ex.new ha))), t2.ex (nw_ex (((e9.trans e10).trans e11).trans (Ex.new ha)))⟩
      have x9 := x8.trans e9
      refine q_off1 (k := 9 * n + 1) (row := row) (ea_cons (ev_var rfl) (ea_cons (ev_is (ev_op (ev_var rfl) ev_c rv_I0) (by rw [show ((9 * n + 1 : Nat) : Int) = 9 * (n : Int) + 1 by omega])) (ea_cons (ev_var rfl) ea_nil))) (x9 _ _ hrl) hrow (by omega) (by omega) (fun ch s m op ns o u l H10 H11 e10 h10 h10' ok10 no10 nu10 hln hH11 => ?_)
      have x10 := x9.trans e10
      have t1b := t1'.ex (nw_ex (e9.trans e10))
      have t2b := t2.ex (nw_ex (e9.trans e10))
      have no10 := fresh_back x9 no10
      have nu10 := fresh_back x9 nu10
      have hl0 := fresh_back x10 hln
      subst hH11
      have x11 := x10.trans (Ex.new (o := .lst [.ref o]) hln)
      refine q_cut (M := fun σ' H' => ∃ (os : Ofs) (xs : List V), σ' = [some (.ref rl), some (.int (n : Int)), some (.int (9 * (n : Int))), some (.int kd), none, some (.ref a1), some (.ref a2), some (.ref l), none] ∧ H' l = some (.lst xs) ∧ OfsTr (Nw H H') xs os ∧ TrOk (h + 1) (.choice os) ∧ Ex H H') ?_ (fun σ' H' ⟨os, xs, hσ, g1', g2', g3', he⟩ => ?_)
      · refine s_when (b := decide (V.int kd = V.int 5)) (et_test (ev_op (ev_var rfl) ev_c (rv_eq rfl))) (fun _ H12 e12 => ?_) (fun _ H12 e12 => ?_)
        · have y12 : Ex H10 H12 := (Ex.new hln).trans e12
          have hl12 : H12 l = some (.lst [.ref o]) := e12 _ _ upd_same
          refine s_off2 (k := 9 * n + 5) (row := row) hl12 (by show 1 ≤ 100; decide) (ev_var rfl) (ea_cons (ev_var rfl) (ea_cons (ev_is (ev_op (ev_var rfl) ev_c rv_I0) (by rw [show ((9 * n + 5 : Nat) : Int) = 9 * (n : Int) + 5 by omega])) (ea_cons (ev_var rfl) ea_nil))) ((x10.trans y12) _ _ hrl) hrow (by omega) (by omega) (fun ch' s' m' op' ns' o' u' H13 e13 h13 h13' ok13 no13 nu13 no nu => ?_)
          have ym : Ex H10 (upd H13 l (.lst ([.ref o] ++ [.ref o']))) := Ex.mut (y12.trans e13) hln
          refine ⟨.cons ch s m op ns p1 (.cons ch' s' m' op' ns' p2 .nil), _, rfl, upd_same, ?_, ok_off2 hh1 ok10 ok13 o1 o2, x10.trans ym⟩
          unfold OfsTr OfsTr OfsTr
          exact ⟨o, u, a1, [.ref o'], rfl, nw_in no10 (ym _ _ h10), nw_in nu10 (ym _ _ h10'), t1b.ex (nw_ex ym), o', u', a2, [], rfl, nw_in (fresh_back (x10.trans y12) no13) (by rw [upd_ne no]; exact h13), nw_in (fresh_back (x10.trans y12) nu13) (by rw [upd_ne nu]; exact h13'), t2b.ex (nw_ex ym), rfl⟩
        · have y12 : Ex H10 H12 := (Ex.new hln).trans e12
          refine ⟨.cons ch s m op ns p1 .nil, [.ref o], rfl, e12 _ _ upd_same, ?_, ok_off1 hh1 ok10 o1, x10.trans y12⟩
          unfold OfsTr OfsTr
          exact ⟨o, u, a1, [], rfl, nw_in no10 (y12 _ _ h10), nw_in nu10 (y12 _ _ h10'), t1b.ex (nw_ex y12), rfl⟩
      · subst hσ
        refine ⟨_, rfl, by show 2 ≤ sizeLine; decide, fun a ha => q a (.choice os) _ (fresh_back he ha) (he.trans (Ex.new ha)) ?_ g3'⟩
        unfold TrAt
        exact ⟨l, xs, nw_in (fresh_back he ha) upd_same, nw_in hl0 ((Ex.new ha) _ _ g1'), g2'.ex (nw_ex (Ex.new ha))⟩
end
end Fs

set_option Elab.async false
set_option linter.all false
set_option maxRecDepth 100000
set_option maxHeartbeats 8000000
/-! what may be made, whatever its words -/
namespace Fs
open PySem L2 Evl FsE FsC FsR FsT FsK
structure WordQ (z : Str) : Prop where
  nm : nameS z = true
  len : z.length ≤ 8
  ok : PyData.strOk z = true
def OpdQ : Opd → Prop
  | .int i => -(10 ^ 30) < i ∧ i < 10 ^ 30
  | .nm z => WordQ z
structure OfQ (ch : Str) (s m : Int) (op : Opd) (ns : List Str) : Prop where
  ch : WordQ ch
  m1 : 1 ≤ m
  m4 : m ≤ 4
  s0 : 0 ≤ s
  s1 : s < m
  op : OpdQ op
  nl : (ns.length : Int) = m - 1
  nd : namesS ns = true
  nz : ∀ y ∈ ns, y.length ≤ 8 ∧ PyData.strOk y = true
mutual
def AlQ : Pr → Prop
  | .choice os => os.len ≤ 6 ∧ AlR os
  | .new n k r => WordQ n ∧ 1 ≤ k ∧ k ≤ 4 ∧ AlQ r
  | .cond l r y n => OpdQ l ∧ OpdQ r ∧ AlQ y ∧ AlQ n
  | .call n ops => WordQ n ∧ ops.length ≤ 4 ∧ ∀ o ∈ ops, OpdQ o
def AlR : Ofs → Prop
  | .nil => True
  | .cons c s m op ns r os => OfQ c s m op ns ∧ AlQ r ∧ AlR os
end
theorem WordOk.q {z : Str} (h : WordOk z) : WordQ z := ⟨h.nm, h.len, h.ok⟩
theorem opd_q {o : Opd} (h : OpdOk o) : OpdQ o := by
  cases o with
  | int i => exact h
  | nm z => exact WordOk.q h
theorem OfOk.q {c : Str} {s m : Int} {op : Opd} {ns : List Str} (h : OfOk c s m op ns) : OfQ c s m op ns := ⟨h.ch.q, h.m1, h.m4, h.s0, h.s1, opd_q h.op, h.nl, h.nd, fun y hy => ⟨by have := (h.nz y hy).1; omega, (h.nz y hy).2⟩⟩
mutual
theorem al_q : ∀ {p : Pr}, AlP p → AlQ p
  | .choice os, h => by
    unfold AlP at h
    unfold AlQ
    exact ⟨h.1, al_r h.2⟩
  | .new n k r, h => by
    unfold AlP at h
    unfold AlQ
    exact ⟨h.1.q, h.2.1, h.2.2.1, al_q h.2.2.2⟩
  | .cond l r y n, h => by
    unfold AlP at h
    unfold AlQ
    exact ⟨opd_q h.1, opd_q h.2.1, al_q h.2.2.1, al_q h.2.2.2⟩
  | .call n ops, h => by
    unfold AlP at h
    unfold AlQ
    exact ⟨h.1.q, h.2.1, fun o ho => opd_q (h.2.2 o ho)⟩
theorem al_r : ∀ {os : Ofs}, AlO os → AlR os
  | .nil, _ => by
    unfold AlR
    trivial
  | .cons c s m op ns r os, h => by
    unfold AlO at h
    unfold AlR
    exact ⟨h.1.q, al_q h.2.1, al_r h.2.2⟩
end
theorem opdQ_v {o : Opd} (h : OpdQ o) : operandV o.v = true := by
  cases o with
  | int i =>
    show (decide (-(10 ^ 30) < i) && decide (i < 10 ^ 30) || false) = true
    rw [decide_eq_true h.1, decide_eq_true h.2]
    rfl
  | nm z =>
    show (false || nameS z) = true
    rw [Bool.false_or]
    exact h.nm
theorem opdQ_ok {o : Opd} (h : OpdQ o) : o.ok := by
  cases o with
  | int i => exact True.intro
  | nm z =>
    show z.length ≤ 40000
    have := h.len
    omega

end Fs

set_option Elab.async false
set_option linter.all false
set_option maxRecDepth 100000
set_option maxHeartbeats 8000000
namespace Fs
open PySem L2 Evl FsE FsC FsR FsT FsK
structure StaT (P : Program) (w : World) (K : PySem.W.Frag) (mg : Str → Option Value) (base : Heap) (C CB : Addr) (k : Nat) : Prop where
  mgC : mg "Process" = some (.ref C)
  stop : StaX P w K mg base (L2.CX P w) k C "stop" (spStop C CB)
  new : StaX P w K mg base (L2.CX P w) k C "new" (spNew C CB)
  when : StaX P w K mg base (L2.CX P w) k C "when" (spWhen C CB)
  call : StaX P w K mg base (L2.CX P w) k C "call" (spCall K C CB)
  offer : StaX P w K mg base (L2.CX P w) k C "offer" (spOffer C CB)
  add : ∃ (g : Addr) (fd : FuncData) (ps : List Str), OpM K C .Add g ∧ FnOk P w K mg base (L2.CX P w) k g fd ps (spAdd C CB) ∧ Binds K fd ps []
theorem Ofs.app_depth : ∀ os qs : Ofs, (os.app qs).depth = max os.depth qs.depth
  | .nil, qs => by
    show qs.depth = max (Ofs.depth .nil) qs.depth
    have h := Ofs.depth_nn qs
    rw [Ofs.depth]
    omega
  | .cons c s m op ns r os, qs => by
    have ih := Ofs.app_depth os qs
    show Ofs.depth (.cons c s m op ns r (os.app qs)) = max (Ofs.depth (.cons c s m op ns r os)) _
    rw [Ofs.depth, Ofs.depth, ih]
    omega
theorem Ofs.app_sum : ∀ os qs : Ofs, (os.app qs).sum = os.sum + qs.sum
  | .nil, qs => by
    show qs.sum = Ofs.sum .nil + qs.sum
    rw [Ofs.sum]
    omega
  | .cons c s m op ns r os, qs => by
    have ih := Ofs.app_sum os qs
    show Ofs.sum (.cons c s m op ns r (os.app qs)) = Ofs.sum (.cons c s m op ns r os) + _
    rw [Ofs.sum, Ofs.sum, ih]
    omega
theorem Ofs.app_assoc : ∀ a b c : Ofs, (a.app b).app c = a.app (b.app c)
  | .nil, _, _ => rfl
  | .cons ch s m op ns r os, b, c => by
    show Ofs.cons ch s m op ns r ((os.app b).app c) = Ofs.cons ch s m op ns r (os.app (b.app c))
    rw [Ofs.app_assoc os b c]
mutual
theorem Pr.size_pos : ∀ p : Pr, 1 ≤ p.size
  | .choice os => by
    have := Ofs.sum_nn os
    rw [Pr.size]
    omega
  | .new n k r => by
    have := Pr.size_pos r
    rw [Pr.size]
    omega
  | .cond l r y n => by
    have := Pr.size_pos y
    have := Pr.size_pos n
    rw [Pr.size]
    omega
  | .call n ops => by
    rw [Pr.size]
    decide
theorem Ofs.sum_nn : ∀ os : Ofs, 0 ≤ os.sum
  | .nil => by
    rw [Ofs.sum]
    decide
  | .cons c s m op ns r os => by
    have := Pr.size_pos r
    have := Ofs.sum_nn os
    rw [Ofs.sum]
    omega
end
theorem AlR.app : ∀ {a b : Ofs}, AlR (a.app b) → AlR a ∧ AlR b
  | .nil, b, h => ⟨by unfold AlR; trivial, h⟩
  | .cons c s m op ns r os, b, h => by
    have h' : AlR (.cons c s m op ns r (os.app b)) := h
    unfold AlR at h'
    obtain ⟨h1, h2, h3⟩ := h'
    obtain ⟨h4, h5⟩ := AlR.app h3
    refine ⟨?_, h5⟩
    unfold AlR
    exact ⟨h1, h2, h4⟩
/-! nothing that is allowed is refused -/
theorem bi_none {p : Pr} (hd : p.depth ≤ 20) (hs : p.size ≤ 400) : badInit p = none := by
  unfold badInit
  rw [if_pos hd, if_pos hs]
theorem seats_B {m : Int} (m1 : 1 ≤ m) (m4 : m ≤ 4) : seatsV (.int m) = true := by
  show (decide (1 ≤ m) && decide (m ≤ 4)) = true
  rw [decide_eq_true m1, decide_eq_true m4]
  rfl
theorem bn_none {z : Str} {k : Int} {r : Pr} (hz : WordQ z) (k1 : 1 ≤ k) (k4 : k ≤ 4) (hd : (Pr.new z k r).depth ≤ 20) (hs : (Pr.new z k r).size ≤ 400) : badNew z k r = none := by
  unfold badNew
  rw [if_pos hz.nm, if_pos (seats_B k1 k4)]
  exact bi_none hd hs
theorem bw_none {l r : Opd} {y n : Pr} (hl : OpdQ l) (hr : OpdQ r) (hd : (Pr.cond l r y n).depth ≤ 20) (hs : (Pr.cond l r y n).size ≤ 400) : badWhen l r y n = none := by
  unfold badWhen
  rw [if_pos (opdQ_v hl), if_pos (opdQ_v hr)]
  exact bi_none hd hs
theorem bc_none {z : Str} {ops : List Opd} (hz : WordQ z) (hl : ops.length ≤ 4) (ho : ∀ o ∈ ops, OpdQ o) : badCall z ops = none := by
  have h1 : (ops.map fun o => operandV o.v).all id = true := by
    rw [List.all_eq_true]
    intro b hb
    obtain ⟨o, ho', rfl⟩ := List.mem_map.mp hb
    exact opdQ_v (ho o ho')
  unfold badCall opsOk
  rw [if_pos hz.nm, if_pos (by rw [h1, decide_eq_true (by omega)]; rfl)]
  exact bi_none (by rw [Pr.depth]; decide) (by rw [Pr.size]; decide)
theorem bo_none {c : Str} {s m : Int} {op : Opd} {ns : List Str} {r : Pr} (h : OfQ c s m op ns) (hd : (Pr.choice (.cons c s m op ns r .nil)).depth ≤ 20) (hs : (Pr.choice (.cons c s m op ns r .nil)).size ≤ 400) : badOffer c s m op ns r = none := by
  unfold badOffer
  rw [if_pos h.ch.nm, if_pos (seats_B h.m1 h.m4), if_pos (by rw [decide_eq_true h.s0, decide_eq_true h.s1]; rfl), if_pos (opdQ_v h.op), if_pos (by rw [h.nl, decide_eq_true rfl, h.nd]; rfl)]
  exact bi_none hd hs
theorem ba_none {a b : Ofs} (hl : a.len + b.len ≤ 6) (hd : (Pr.choice (a.app b)).depth ≤ 20) (hs : (Pr.choice (a.app b)).size ≤ 400) : badAdd (.choice a) (.choice b) = none := by
  unfold badAdd
  rw [if_pos (show ((Pr.choice a).isCh && (Pr.choice b).isCh) = true from rfl)]
  show (if a.len + b.len ≤ 6 then badInit (.choice (a.app b)) else some "offers") = none
  rw [if_pos hl]
  exact bi_none hd hs
theorem ch_num (os : Ofs) : (Pr.choice os).depth = 1 + os.depth ∧ (Pr.choice os).size = max 1 (os.len : Int) + os.sum := ⟨by rw [Pr.depth], by rw [Pr.size]⟩
def spMade (C : Addr) (d : Nat) : Sp := fun vs H Q _ => ∃ (a : Addr) (p : Pr), vs = [.ref a] ∧ TrAt H a p ∧ AlQ p ∧ p.depth ≤ (d : Int) ∧ d ≤ 20 ∧ p.size ≤ 400 ∧ ∀ c H', H c = none → Ex H H' → PrAt C H' c p → Q (.ref c) H'
section
variable {P : Program} {w : World} {K : PySem.W.Frag} {mg : Str → Option Value} {base : Heap} {C CB : Addr}
abbrev nsMade : List Str := ["_law_term_here", "_law_made_here", "_law_channel", "_law_seat", "_law_seats", "_law_operand_here", "_law_names", "_law_rest"]
theorem scMade : FnScope nsMade ["_law_term_here"] (defScope (topS 39)) := ⟨rfl, rfl, rfl, by decide +kernel, rfl, by decide +kernel, by decide +kernel⟩
theorem kC_C : decide (V.str ("choice" : Str) = V.str "choice") = true := by decide +kernel
theorem kN_C : decide (V.str ("new" : Str) = V.str "choice") = false := by decide +kernel
theorem kN_N : decide (V.str ("new" : Str) = V.str "new") = true := by decide +kernel
theorem kI_C : decide (V.str ("if" : Str) = V.str "choice") = false := by decide +kernel
theorem kI_N : decide (V.str ("if" : Str) = V.str "new") = false := by decide +kernel
theorem kI_I : decide (V.str ("if" : Str) = V.str "if") = true := by decide +kernel
theorem kL_C : decide (V.str ("call" : Str) = V.str "choice") = false := by decide +kernel
theorem kL_N : decide (V.str ("call" : Str) = V.str "new") = false := by decide +kernel
theorem kL_I : decide (V.str ("call" : Str) = V.str "if") = false := by decide +kernel
theorem ok_made {f : Addr} {fd : FuncData} (F : Fun K "_law_made" "_law_made" (topS 39) f fd) (S : StaT P w K mg base C CB 5) (hlist : mg "list" = none) (hm : mg "_law_made" = some (.ref f)) (kp : PySem.W.keepIn K (.ref f) = true) (bd : Binds K fd ["_law_term_here"] []) : ∀ d : Nat, FnOk P w K mg base CX0 (6 + d) f fd ["_law_term_here"] (spMade C d)
  | 0 => by
    refine F.ok scMade (fun vs H Q E h => ?_) (fun cdv A outer s H vs Q E hr h => ?_)
    · obtain ⟨a, p, rfl, _⟩ := h
      rfl
    · obtain ⟨a, p, rfl, _, _, hd, _⟩ := h
      have := Pr.depth_pos p
      exact absurd hd (by omega)
  | d + 1 => by
    have ih := ok_made F S hlist hm kp bd d
    have GM : CalX P w K mg base CX0 (6 + d) "_law_made" (spMade C d) := ⟨f, fd, _, ih, hm, kp, bd⟩
    refine F.ok (k := 6 + d) scMade (fun vs H Q E h => ?_) (fun cdv A outer s H vs Q E hr h => ?_)
    · obtain ⟨a, p, rfl, _⟩ := h
      rfl
    · obtain ⟨a, p, rfl, ht, hal, hd, hd20, hs, q⟩ := h
      obtain ⟨g, fdg, psg, OM, FA, BA⟩ := S.add
      refine ⟨_, pss_cons (ps_if (pt_cmpR op_eq (pe_ix ix_tup (pv 0) pe_int (fun _ _ => rfl)) pe_str (nomark _))
          (pss_cons (ps_set (i := 1) scMade.nd rfl (Or.inl rfl) (pe_sx0 (E := fun _ => E0) S.stop hr (by omega) (pe_glob (v := .ref C) (by rfl) S.mgC rfl) (fun σ => passesAt_of passL σ)))
          (pss_cons (ps_for PassesOwn.never rfl (pi_list (pe_ix ix_tup (pv 0) pe_int (fun _ _ => rfl))) (pg_tup rfl (pgs_cons (pg_name (i := 2) scMade.nd rfl (.inl rfl)) (pgs_cons (pg_name (i := 3) scMade.nd rfl (.inl rfl)) (pgs_cons (pg_name (i := 4) scMade.nd rfl (.inl rfl)) (pgs_cons (pg_name (i := 5) scMade.nd rfl (.inl rfl)) (pgs_cons (pg_name (i := 6) scMade.nd rfl (.inl rfl)) (pgs_cons (pg_name (i := 7) scMade.nd rfl (.inl rfl)) pgs_nil)))))))
            (pss_one (ps_set (i := 1) scMade.nd rfl (Or.inl rfl) (pe_own (E := fun _ => E0) (pv 1) (pe_sx (E := fun _ => E0) S.offer hr (by omega) (pe_glob (v := .ref C) (by rfl) S.mgC rfl) (fun σ => passesAt_of passL σ)
              (pa_cons (pv 2) (pa_cons (pv 3) (pa_cons (pv 4) (pa_cons (pv 5) (pa_cons (pe_callTy call_list_of (by rfl) hlist (by decide +kernel) (pa_cons (pv 6) pa_nil)) (pa_cons (pe_cx (E := fun _ => E0) GM hr (Nat.le_refl _) (by rfl) at0 (pa_cons (pv 7) pa_nil)) pa_nil))))))) OM FA (hr.mono (by omega)) BA (fun σ => passesAt_of passL σ)))))
          (pss_one (ps_ret (pv 1))))) pss_nil)
        (pss_cons (ps_if (pt_cmpR op_eq (pe_ix ix_tup (pv 0) pe_int (fun _ _ => rfl)) pe_str (nomark _)) (pss_one (ps_ret (pe_sx (E := fun _ => E0) S.new hr (by omega) (pe_glob (v := .ref C) (by rfl) S.mgC rfl) (fun σ => passesAt_of passL σ)
            (pa_cons (pe_ix ix_tup (pv 0) pe_int (fun _ _ => rfl)) (pa_cons (pe_ix ix_tup (pv 0) pe_int (fun _ _ => rfl)) (pa_cons (pe_cx (E := fun _ => E0) GM hr (Nat.le_refl _) (by rfl) at0 (pa_cons (pe_ix ix_tup (pv 0) pe_int (fun _ _ => rfl)) pa_nil)) pa_nil)))))) pss_nil)
        (pss_cons (ps_if (pt_cmpR op_eq (pe_ix ix_tup (pv 0) pe_int (fun _ _ => rfl)) pe_str (nomark _)) (pss_one (ps_ret (pe_sx (E := fun _ => E0) S.when hr (by omega) (pe_glob (v := .ref C) (by rfl) S.mgC rfl) (fun σ => passesAt_of passL σ)
            (pa_cons (pe_ix ix_tup (pv 0) pe_int (fun _ _ => rfl)) (pa_cons (pe_ix ix_tup (pv 0) pe_int (fun _ _ => rfl)) (pa_cons (pe_cx (E := fun _ => E0) GM hr (Nat.le_refl _) (by rfl) at0 (pa_cons (pe_ix ix_tup (pv 0) pe_int (fun _ _ => rfl)) pa_nil)) (pa_cons (pe_cx (E := fun _ => E0) GM hr (Nat.le_refl _) (by rfl) at0 (pa_cons (pe_ix ix_tup (pv 0) pe_int (fun _ _ => rfl)) pa_nil)) pa_nil))))))) pss_nil)
        (pss_one (ps_ret (pe_sx (E := fun _ => E0) S.call hr (by omega) (pe_glob (v := .ref C) (by rfl) S.mgC rfl) (fun σ => passesAt_of passL σ)
            (pa_cons (pe_ix ix_tup (pv 0) pe_int (fun _ _ => rfl)) (pa_cons (pe_callTy call_list_of (by rfl) hlist (by decide +kernel) (pa_cons (pe_ix ix_tup (pv 0) pe_int (fun _ _ => rfl)) pa_nil)) pa_nil))))))), ?_⟩
      have hdS : (d : Int) + 1 ≤ 20 := by omega
      have ixk : ∀ {xs : List V} {H9 : Hp} {σ9 : L2.St} {i : Int} {v : V}, H9 a = some (.tup xs) → σ9[0]? = some (some (.ref a)) → atI xs i = some v → Ev (tOp (rIxT K) (tVar 0) (tC (.int i))) σ9 H9 v := fun h9 s0 g => ev_op (ev_var s0) ev_c (rv_ixT (st_of h9) g)
      cases p with
      | choice os =>
        unfold TrAt at ht
        obtain ⟨l, xs, h1, h2, h3⟩ := ht
        unfold AlQ at hal
        obtain ⟨hlen, hao⟩ := hal
        obtain ⟨nd, nz⟩ := ch_num os
        rw [nd] at hd
        rw [nz] at hs
        refine q_when (b := true) (et_is (et_test (ev_op (ixk h1 rfl rfl) ev_c (rv_eq rfl))) kC_C) (fun _ H1 e1 => ?_) (fun hb => nomatch hb)
        refine ⟨rfl, rfl, fun _ b0 H2 hb0 e2 hp0 => ?_, fun f hf => nomatch hf⟩
        have x2 := e1.trans e2
        refine q_forL (a := l) (xs := xs) (ixk (x2 _ _ h1) rfl rfl) (sq_of (x2 _ _ h2)) (fun i σ' H' => ∃ (b : Addr) (pre post : Ofs) (v2 v3 v4 v5 v6 v7 : Option V), σ' = [some (.ref a), some (.ref b), v2, v3, v4, v5, v6, v7] ∧ os = pre.app post ∧ OfsTr H' (xs.drop i) post ∧ PrAt C H' b (.choice pre) ∧ H b = none ∧ Ex H H')
          (fun H3 e3 => ⟨b0, .nil, os, _, _, _, _, _, _, rfl, rfl, h3.ex (x2.trans e3), hp0.ex e3, fresh_back e1 hb0, x2.trans e3⟩) (fun i σ' H' _ ⟨_, _, _, _, _, _, _, _, _, _, _, _, _, _, he⟩ => sq_of (he _ _ h2)) (fun i x σ' H' hx ⟨b, pre, post, v2, v3, v4, v5, v6, v7, hσ, hos, hof, hpb, hbn, he⟩ => ?_) (fun σ' H' ⟨b, pre, post, v2, v3, v4, v5, v6, v7, hσ, hos, hof, hpb, hbn, he⟩ => ?_)
        · subst hσ
          have hd0 : (xs.drop i)[0]? = some x := by rw [List.getElem?_drop, Nat.add_zero]; exact hx
          cases post with
          | nil =>
            unfold OfsTr at hof
            rw [hof] at hd0
            cases hd0
          | cons ch s m op ns r post =>
            unfold OfsTr at hof
            obtain ⟨o, u, b2, qs, hdr, ho, hu, htr, hof⟩ := hof
            rw [hdr] at hd0
            obtain rfl : x = .ref o := (Option.some.inj hd0).symm
            have hdr1 : xs.drop (i + 1) = qs := by rw [← List.drop_drop, hdr]; rfl
            rw [hos] at hao
            obtain ⟨ap, aq⟩ := AlR.app hao
            unfold AlR at aq
            obtain ⟨ofk, alr, alq⟩ := aq
            have eD : os.depth = max pre.depth (max r.depth post.depth) := by rw [hos, Ofs.app_depth, Ofs.depth]
            have eS : os.sum = pre.sum + (r.size + post.sum) := by rw [hos, Ofs.app_sum, Ofs.sum]
            have eL : os.len = pre.len + (post.len + 1) := by rw [hos, Ofs.app_len]; rfl
            have p1 := Ofs.sum_nn pre
            have p2 := Ofs.sum_nn post
            have p3 := Pr.size_pos r
            have p4 := Ofs.depth_nn pre
            have p5 := Ofs.depth_nn post
            have p6 := Pr.depth_pos r
            have oD : (Ofs.cons ch s m op ns r .nil).depth = max r.depth 0 := by rw [Ofs.depth, Ofs.depth]
            have oS : (Ofs.cons ch s m op ns r .nil).sum = r.size + 0 := by rw [Ofs.sum, Ofs.sum]
            have oL : (Ofs.cons ch s m op ns r .nil).len = 1 := rfl
            refine ⟨o, _, rfl, st_of ho, rfl, _, _, rfl, _, _, rfl, _, _, rfl, _, _, rfl, _, _, rfl, _, _, rfl, rfl, ?_⟩
            refine ⟨_, rfl, rfl, _, rfl, _, rfl, _, rfl, _, rfl, _, rfl, u, _, rfl, .inl (sq_of hu), fun lu hlu => ⟨_, rfl, b2, r, rfl, htr.ex (Ex.new hlu), alr, by omega, by omega, by omega, fun c H3 hc e3 h3' => ?_⟩⟩
            have y3 : Ex H' H3 := (Ex.new hlu).trans e3
            refine ⟨ch, s, m, op, lu, ns, c, r, rfl, by have := ofk.ch.len; omega, opdQ_ok ofk.op, .inl (e3 _ _ upd_same), by have := ofk.nl; have := ofk.m4; omega, (fun y hy => by have := (ofk.nz y hy).1; omega), h3', fun _ c2 H4 hc2 e4 h4 => ?_, fun f hf => by
              rw [bo_none ofk (by rw [(ch_num _).1, oD]; omega) (by rw [(ch_num _).2, oS, oL]; omega)] at hf
              cases hf⟩
            have y4 := y3.trans e4
            have b4 := hpb.ex y4
            obtain ⟨tt1, xs1, ⟨dx, i1⟩, _⟩ := b4.out
            obtain ⟨tt2, xs2, ⟨dy, i2⟩, _⟩ := h4.out
            refine ⟨b, c2, dx, dy, _, _, rfl, rfl, i1, i2, b, c2, .choice pre, .choice (.cons ch s m op ns r .nil), rfl, b4, h4, by show pre.len ≤ 40; omega, by show 1 ≤ 40; decide, fun _ c5 H5 hc5 e5 h5 => ?_, fun f hf => by
              rw [ba_none (by rw [oL]; omega) (by rw [(ch_num _).1, Ofs.app_depth, oD]; omega) (by rw [(ch_num _).2, Ofs.app_sum, Ofs.app_len, oS, oL]; omega)] at hf
              cases hf⟩
            have y5 := y4.trans e5
            exact ⟨c5, pre.app (.cons ch s m op ns r .nil), post, _, _, _, _, _, _, rfl, by rw [Ofs.app_assoc]; exact hos, by rw [hdr1]; exact hof.ex y5, h5, fresh_back (he.trans y4) hc5, he.trans y5⟩
        · subst hσ
          rw [List.drop_length] at hof
          cases post with
          | nil =>
            rw [Ofs.app_nil] at hos
            subst hos
            exact s_ret (ev_var rfl) (fun H5 e5 => q b H5 hbn (he.trans e5) (hpb.ex e5))
          | cons ch s m op ns r post =>
            unfold OfsTr at hof
            obtain ⟨o, u, b2, qs, hdr, _⟩ := hof
            cases hdr
      | new n kk r =>
        unfold TrAt at ht
        obtain ⟨b, h1, h2⟩ := ht
        unfold AlQ at hal
        obtain ⟨hn, k1, k4, alr⟩ := hal
        have eD : (Pr.new n kk r).depth = 1 + r.depth := by rw [Pr.depth]
        have eS : (Pr.new n kk r).size = 1 + r.size := by rw [Pr.size]
        refine q_when (b := false) (et_is (et_test (ev_op (ixk h1 rfl rfl) ev_c (rv_eq rfl))) kN_C) (fun hb => nomatch hb) (fun _ H1 e1 => ?_)
        refine q_when (b := true) (et_is (et_test (ev_op (ixk (e1 _ _ h1) rfl rfl) ev_c (rv_eq rfl))) kN_N) (fun _ H2 e2 => ?_) (fun hb => nomatch hb)
        have x2 := e1.trans e2
        refine ⟨rfl, (ixk (σ9 := [some (.ref a), none, none, none, none, none, none, none]) (i := 1) (v := .str n) (x2 _ _ h1) rfl rfl : Ev _ _ H2 _) H2 (Ex.refl H2) _ (fun H3 e3 => ?_)⟩
        have x3 := x2.trans e3
        refine (ixk (σ9 := [some (.ref a), none, none, none, none, none, none, none]) (i := 2) (v := .int kk) (x3 _ _ h1) rfl rfl : Ev _ _ H3 _) H3 (Ex.refl H3) _ (fun H4 e4 => ?_)
        have x4 := x3.trans e4
        refine (ixk (σ9 := [some (.ref a), none, none, none, none, none, none, none]) (i := 3) (v := .ref b) (x4 _ _ h1) rfl rfl : Ev _ _ H4 _) H4 (Ex.refl H4) _ (fun H5 e5 => ?_)
        have x5 := x4.trans e5
        refine ⟨b, r, rfl, h2.ex x5, alr, by omega, by omega, by omega, fun c H6 hc e6 h6 => ?_⟩
        refine ⟨n, kk, c, r, rfl, by have := hn.len; omega, h6, fun _ c2 H7 hc2 e7 h7 => q c2 H7 (fresh_back (x5.trans e6) hc2) ((x5.trans e6).trans e7) h7, fun f hf => by
          rw [bn_none hn k1 k4 (by omega) (by omega)] at hf
          cases hf⟩
      | cond lo ro y n =>
        unfold TrAt at ht
        obtain ⟨b, b', h1, h2, h3⟩ := ht
        unfold AlQ at hal
        obtain ⟨hl, hr', aly, aln⟩ := hal
        have eD : (Pr.cond lo ro y n).depth = 1 + max y.depth n.depth := by rw [Pr.depth]
        have eS : (Pr.cond lo ro y n).size = 1 + (y.size + n.size) := by rw [Pr.size]
        have p1 := Pr.size_pos y
        have p2 := Pr.size_pos n
        refine q_when (b := false) (et_is (et_test (ev_op (ixk h1 rfl rfl) ev_c (rv_eq rfl))) kI_C) (fun hb => nomatch hb) (fun _ H1 e1 => ?_)
        refine q_when (b := false) (et_is (et_test (ev_op (ixk (e1 _ _ h1) rfl rfl) ev_c (rv_eq rfl))) kI_N) (fun hb => nomatch hb) (fun _ H2 e2 => ?_)
        have x2 := e1.trans e2
        refine q_when (b := true) (et_is (et_test (ev_op (ixk (x2 _ _ h1) rfl rfl) ev_c (rv_eq rfl))) kI_I) (fun _ H3 e3 => ?_) (fun hb => nomatch hb)
        have x3 := x2.trans e3
        refine ⟨rfl, (ixk (σ9 := [some (.ref a), none, none, none, none, none, none, none]) (i := 1) (v := lo.v) (x3 _ _ h1) rfl rfl : Ev _ _ H3 _) H3 (Ex.refl H3) _ (fun H4 e4 => ?_)⟩
        have x4 := x3.trans e4
        refine (ixk (σ9 := [some (.ref a), none, none, none, none, none, none, none]) (i := 2) (v := ro.v) (x4 _ _ h1) rfl rfl : Ev _ _ H4 _) H4 (Ex.refl H4) _ (fun H5 e5 => ?_)
        have x5 := x4.trans e5
        refine (ixk (σ9 := [some (.ref a), none, none, none, none, none, none, none]) (i := 3) (v := .ref b) (x5 _ _ h1) rfl rfl : Ev _ _ H5 _) H5 (Ex.refl H5) _ (fun H6 e6 => ?_)
        have x6 := x5.trans e6
        refine ⟨b, y, rfl, h2.ex x6, aly, by omega, by omega, by omega, fun c H7 hc e7 h7 => ?_⟩
        have x7 := x6.trans e7
        refine (ixk (σ9 := [some (.ref a), none, none, none, none, none, none, none]) (i := 4) (v := .ref b') (x7 _ _ h1) rfl rfl : Ev _ _ H7 _) H7 (Ex.refl H7) _ (fun H8 e8 => ?_)
        have x8 := x7.trans e8
        refine ⟨b', n, rfl, h3.ex x8, aln, by omega, by omega, by omega, fun c' H9 hc' e9 h9 => ?_⟩
        have x9 := x8.trans e9
        refine ⟨lo, ro, c, c', y, n, rfl, opdQ_ok hl, opdQ_ok hr', h7.ex (e8.trans e9), h9, fun _ c2 H10 hc2 e10 h10 => q c2 H10 (fresh_back x9 hc2) (x9.trans e10) h10, fun f hf => by
          rw [bw_none hl hr' (by omega) (by omega)] at hf
          cases hf⟩
      | call n ops =>
        unfold TrAt at ht
        obtain ⟨u, h1, h2⟩ := ht
        unfold AlQ at hal
        obtain ⟨hn, hol, hoo⟩ := hal
        refine q_when (b := false) (et_is (et_test (ev_op (ixk h1 rfl rfl) ev_c (rv_eq rfl))) kL_C) (fun hb => nomatch hb) (fun _ H1 e1 => ?_)
        refine q_when (b := false) (et_is (et_test (ev_op (ixk (e1 _ _ h1) rfl rfl) ev_c (rv_eq rfl))) kL_N) (fun hb => nomatch hb) (fun _ H2 e2 => ?_)
        have x2 := e1.trans e2
        refine q_when (b := false) (et_is (et_test (ev_op (ixk (x2 _ _ h1) rfl rfl) ev_c (rv_eq rfl))) kL_I) (fun hb => nomatch hb) (fun _ H3 e3 => ?_)
        have x3 := x2.trans e3
        refine ⟨rfl, (ixk (σ9 := [some (.ref a), none, none, none, none, none, none, none]) (i := 1) (v := .str n) (x3 _ _ h1) rfl rfl : Ev _ _ H3 _) H3 (Ex.refl H3) _ (fun H4 e4 => ?_)⟩
        have x4 := x3.trans e4
        refine (ixk (σ9 := [some (.ref a), none, none, none, none, none, none, none]) (i := 2) (v := .ref u) (x4 _ _ h1) rfl rfl : Ev _ _ H4 _) H4 (Ex.refl H4) _ (fun H5 e5 => ?_)
        have x5 := x4.trans e5
        refine ⟨u, _, rfl, .inl (sq_of (x5 _ _ h2)), fun lu hlu => ?_⟩
        refine ⟨n, lu, ops, rfl, by have := hn.len; omega, .inl upd_same, by omega, (fun o ho => opdQ_ok (hoo o ho)), fun _ c2 H7 hc2 e7 h7 => q c2 H7 (fresh_back x5 (fresh_back (Ex.new hlu) hc2)) ((x5.trans (Ex.new hlu)).trans e7) h7, fun f hf => by
          rw [bc_none hn hol hoo] at hf
          cases hf⟩
end
end Fs

set_option Elab.async false
set_option linter.all false
set_option maxRecDepth 100000
set_option maxHeartbeats 4000000
/-! == of tuples and of own instances, whatever the answer. -/
namespace FsQ
open PySem PySem.SeqAt
open AutoSeq1 (wpAny_loadPart')
open MeetsSeq MeetsSeq2 MeetsSeq3 SeqRoads2
open GQ
section
variable {prog : Program} {w : World} {A : Around} {R : Result → Shared → Prop}
theorem all_upto {e : Nat → Bool} {m : Nat} (h : ∀ j, j < m → e j = true) : (List.range m).all e = true := List.all_eq_true.mpr fun j hj => h j (List.mem_range.mp hj)
theorem not_all {e : Nat → Bool} {m i : Nat} (hi : i < m) (h : e i = false) : (List.range m).all e = false := by
  cases z : (List.range m).all e with
  | false => rfl
  | true =>
    have := List.all_eq_true.mp z i (List.mem_range.mpr hi)
    rw [h] at this
    cases this
/-- the walk over two tuples, the answer of each pair told -/
theorem tuple_any (l b : Addr) (xs ys : Array Value) (n n2 : Nat) (dd dd2 : Option Addr) (sl sl2 : Array (Option Value)) (e : Nat → Bool) (I : Nat → Shared → Prop)
    (pair : ∀ i (h1 : i < xs.size) (h2 : i < ys.size) s, I i s → wpAny (model prog w) A.in1 (eqBool xs[i] ys[i]) (fun r s' => r = e i ∧ I (i + 1) s') (fun z s' => R (.error z) s') s)
    (ends : ∀ i s, I i s → R (.ok (.ret (.bool ((List.range (min xs.size ys.size)).all e && (xs.size == ys.size))))) s) {s : Shared} (ha : s.heap.get? l = some { cls := .type "tuple", dict := dd, data := .seq xs n, slots := sl }) (hb : s.heap.get? b = some { cls := .type "tuple", dict := dd2, data := .seq ys n2, slots := sl2 }) (h0 : I 0 s) :
    wpAny (model prog w) A.in1 (Builtin.«tuple.__eq__» ⟨[.ref l, .ref b], []⟩) (FinOf prog w A R) (fun z s' => R (.error z) s') s := by
  have sub := AutoSeq1.sub_tuple_tuple
  have len : (xs.toList.zip ys.toList).length = min xs.size ys.size := by simp
  have start := h0
  obtain ⟨hp, g, d, tk, os⟩ := s
  wp_walk using wpAny_loadPart' ha, wpAny_loadPart' hb, wpAny_forIn_list _ (fun left acc s' => acc.1 = none ∧ ∃ i, left = (xs.toList.zip ys.toList).drop i ∧ i ≤ min xs.size ys.size ∧ (∀ j, j < i → e j = true) ∧ I i s') _
  case h => exact ⟨rfl, 0, rfl, Nat.zero_le _, fun j hj => absurd hj (Nat.not_lt_zero j), start⟩
  case turn =>
    rintro ⟨u, v⟩ left acc s' ⟨_, i, hz, _, hall, hI⟩
    have hi : i < (xs.toList.zip ys.toList).length := Nat.lt_of_not_le fun z => by
      rw [List.drop_of_length_le z] at hz
      cases hz
    have him : i < min xs.size ys.size := len ▸ hi
    have h1 : i < xs.size := Nat.lt_of_lt_of_le him (Nat.min_le_left _ _)
    have h2 : i < ys.size := Nat.lt_of_lt_of_le him (Nat.min_le_right _ _)
    rw [List.drop_eq_getElem_cons hi] at hz
    injection hz with hp0 hleft
    obtain rfl : u = xs[i] := by have := congrArg Prod.fst hp0; simpa using this
    obtain rfl : v = ys[i] := by have := congrArg Prod.snd hp0; simpa using this
    refine wpAny_bind (wpAny_mono (pair i h1 h2 s' hI) (fun r s2 ⟨hr, hI2⟩ => ?_) fun _ _ z => z)
    subst hr
    cases he : e i with
    | true =>
      wp_walk
      refine ⟨rfl, i + 1, hleft, him, fun j hj => ?_, hI2⟩
      by_cases z : j = i
      · rw [z, he]
      · exact hall j (by omega)
    | false =>
      have out := ends (i + 1) s2 hI2
      rw [not_all him he, Bool.false_and] at out
      wp_walk
      exact out
  case fin =>
    rintro ⟨a1, a2⟩ s' ⟨ha1, i, hz, hi, hall, hI⟩
    simp only at ha1
    subst ha1
    have hge : min xs.size ys.size ≤ i := Nat.le_of_not_lt fun z => by
      rw [List.drop_eq_getElem_cons (len ▸ z)] at hz
      cases hz
    obtain rfl : i = min xs.size ys.size := by omega
    have out := ends _ s' hI
    rw [all_upto hall, Bool.true_and] at out
    wp_walk
    simpa [Builtin.Tuple.tupleCompareSizes] using out
end
section
variable {prog : Program} {w : World} {A : Around} {E : Value → Shared → Prop} {s : Shared}
theorem rc_tuple_any {l b : Addr} {xs ys : Array Value} {e : Nat → Bool} {Q : Value → Shared → Prop} (hu : A.units < cLine) (I : Nat → Shared → Prop) (hl : s.heap.IsTuple l xs) (hb : s.heap.IsTuple b ys)
    (pair : ∀ i (h1 : i < xs.size) (h2 : i < ys.size) s, I i s → wpAny (model prog w) A.in1 (eqBool xs[i] ys[i]) (fun r s' => r = e i ∧ I (i + 1) s') E s)
    (ends : ∀ i s, I i s → Q (.bool ((List.range (min xs.size ys.size)).all e && (xs.size == ys.size))) s) (h0 : I 0 s) : wpAny (model prog w) A (richCompare .Eq (.ref l) (.ref b)) Q E s := by
  obtain ⟨⟨c1, d1, t1, s1⟩, o1, k1, n1, z1⟩ := id hl
  obtain ⟨⟨c2, d2, t2, s2⟩, o2, k2, n2, z2⟩ := id hb
  simp only at k1 z1 k2 z2
  subst k1 z1 k2 z2
  refine wpAny_richCompare_same_room (op := .Eq) ⟨_, o1, rfl⟩ ⟨_, o2, rfl⟩ F.slot_tuple_eq (call_here F.slot_tuple_eq ⟨_, o1, rfl⟩ F.entry_tuple_eq (F.args_tuple_eq_2 _ _) ?_) hu
  exact tuple_any (R := wants (fun v s' => v ≠ .notImplemented ∧ Q v s') E) l b xs ys n1 n2 d1 d2 s1 s2 e I pair (fun i s' q => ⟨(fun z => nomatch z), ends i s' q⟩) o1 o2 h0
end
end FsQ
namespace FsQ
open PySem PySem.Spec PyProof.Rows L2
/-- how two values compare, by the abstract heap -/
abbrev Cmp := V → V → Bool → Hp → Prop
def MonB (D : Cmp) : Prop := ∀ x y b H H', Ext H H' → D x y b H → D x y b H'
def EqB (X : Cx) (n : Nat) (D : Cmp) : Prop := ∀ (A : Around) (pins : List (Addr × Obj)) (s : Shared) (σ : L2.St) (H : Hp) (x y : V) (u v : Value) (b : Bool), Sub X n A → Inv X pins σ H s → RelV x u → RelV y v → D x y b H →
  wpAny (model X.prog X.w) A (eqBool u v) (fun r s' => r = b ∧ ∃ H', Inv X pins σ H' s' ∧ Ext H H') X.xe s
def RcB (X : Cx) (n : Nat) (D : Cmp) : Prop := ∀ (A : Around) (pins : List (Addr × Obj)) (s : Shared) (σ : L2.St) (H : Hp) (x y : V) (u v : Value) (b : Bool), Sub X n A → Inv X pins σ H s → RelV x u → RelV y v → D x y b H →
  wpAny (model X.prog X.w) A (richCompare .Eq u v) (fun r s' => r = .bool b ∧ ∃ H', Inv X pins σ H' s' ∧ Ext H H') X.xe s
/-- pair by pair, as far as both reach -/
def ZipB (D : Cmp) : List V → List V → List Bool → Hp → Prop
  | x :: xs, y :: ys, b :: bs, H => D x y b H ∧ ZipB D xs ys bs H
  | [], _, [], _ => True
  | _ :: _, [], [], _ => True
  | _, _, _, _ => False
def CFlat : Cmp := fun x y b _ => flatV x = true ∧ flatV y = true ∧ eqV x y = b
def CTup (D : Cmp) : Cmp := fun x y b H => ∃ a c xs ys bs, x = .ref a ∧ y = .ref c ∧ H a = some (.tup xs) ∧ H c = some (.tup ys) ∧ ZipB D xs ys bs H ∧ b = (bs.all id && (xs.length == ys.length))
def CIns (C : Addr) (R : Addr → Addr → Bool → Hp → Prop) : Cmp := fun x y b H => ∃ a c dx dy fs gs, x = .ref a ∧ y = .ref c ∧ H a = some (.ins C dx fs) ∧ H c = some (.ins C dy gs) ∧ R a c b H
/-- what the own == promises -/
def spEqB (R : Addr → Addr → Bool → Hp → Prop) : Sp := fun vs H Q _ => ∃ a c b, vs = [.ref a, .ref c] ∧ R a c b H ∧ ∀ H', Ext H H' → Q (.bl b) H'
section
variable {X : Cx} {n m : Nat} {D D' : Cmp}
theorem EqB.mono (h : EqB X n D) (hn : n ≤ m) : EqB X m D := fun A pins s σ H x y u v b sb => h A pins s σ H x y u v b (sb.mono hn)
theorem EqB.or (h : EqB X n D) (h' : EqB X n D') : EqB X n (fun x y b H => D x y b H ∨ D' x y b H) := fun A pins s σ H x y u v b sb I rx ry d => d.elim (h A pins s σ H x y u v b sb I rx ry) (h' A pins s σ H x y u v b sb I rx ry)
theorem MonB.or (h : MonB D) (h' : MonB D') : MonB (fun x y b H => D x y b H ∨ D' x y b H) := fun x y b H H' e d => d.elim (fun d => .inl (h x y b H H' e d)) fun d => .inr (h' x y b H H' e d)
theorem ZipB.mon (hD : MonB D) {H H' : Hp} (e : Ext H H') : ∀ {xs ys : List V} {bs : List Bool}, ZipB D xs ys bs H → ZipB D xs ys bs H'
  | _ :: _, _ :: _, _ :: _, h => ⟨hD _ _ _ _ _ e h.1, ZipB.mon hD e h.2⟩
  | [], _, [], _ => trivial
  | _ :: _, [], [], _ => trivial
  | [], [], _ :: _, h => h.elim
  | [], _ :: _, _ :: _, h => h.elim
  | _ :: _, [], _ :: _, h => h.elim
  | _ :: _, _ :: _, [], h => h.elim
theorem ZipB.len {H : Hp} : ∀ {xs ys : List V} {bs : List Bool}, ZipB D xs ys bs H → bs.length = min xs.length ys.length
  | _ :: _, _ :: _, _ :: _, h => by
    have := ZipB.len h.2
    simp only [List.length_cons]
    omega
  | [], _, [], _ => by simp
  | _ :: _, [], [], _ => by simp
  | [], [], _ :: _, h => h.elim
  | [], _ :: _, _ :: _, h => h.elim
  | _ :: _, [], _ :: _, h => h.elim
  | _ :: _, _ :: _, [], h => h.elim
theorem ZipB.get {H : Hp} : ∀ {xs ys : List V} {bs : List Bool} {i : Nat} {x y : V}, ZipB D xs ys bs H → xs[i]? = some x → ys[i]? = some y → ∃ b, bs[i]? = some b ∧ D x y b H
  | _ :: _, _ :: _, b :: _, 0, _, _, h, h1, h2 => by
    cases h1
    cases h2
    exact ⟨b, rfl, h.1⟩
  | _ :: _, _ :: _, _ :: _, i + 1, _, _, h, h1, h2 => ZipB.get (i := i) h.2 h1 h2
  | [], _, _, _, _, _, _, h1, _ => by simp at h1
  | _ :: _, [], _, _, _, _, _, _, h2 => by simp at h2
  | _ :: _, _ :: _, [], _, _, _, h, _, _ => h.elim
theorem all_getD : ∀ (bs : List Bool), (List.range bs.length).all (fun i => bs.getD i true) = bs.all id
  | [] => rfl
  | b :: bs => by
    rw [List.length_cons, List.range_succ_eq_map, List.all_cons, List.all_cons, List.all_map]
    show (b && (List.range bs.length).all fun i => bs.getD i true) = _
    rw [all_getD bs]
    rfl
theorem monB_flat : MonB CFlat := fun _ _ _ _ _ _ d => d
theorem monB_tup (hD : MonB D) : MonB (CTup D) := fun x y b H H' e ⟨a, c, xs, ys, bs, h1, h2, h3, h4, h5, h6⟩ => ⟨a, c, xs, ys, bs, h1, h2, e _ _ h3, e _ _ h4, h5.mon hD e, h6⟩
theorem monB_ins {C : Addr} {R : Addr → Addr → Bool → Hp → Prop} (hR : ∀ a c b H H', Ext H H' → R a c b H → R a c b H') : MonB (CIns C R) := fun x y b H H' e ⟨a, c, dx, dy, fs, gs, h1, h2, h3, h4, h5⟩ => ⟨a, c, dx, dy, fs, gs, h1, h2, e _ _ h3, e _ _ h4, hR _ _ _ _ _ e h5⟩
theorem eqB_flat : EqB X 0 CFlat := by
  intro A pins s σ H x y u v b sb I rx ry ⟨fx, fy, e⟩
  subst e
  exact eqAt_V (A := A) (s := s) rx ry fx fy X.prog X.w X.xe _ ⟨rfl, H, I, Ext.rfl'⟩
theorem rcB_tup (hD : MonB D) (h : EqB X n D) : RcB X (n + 1) (CTup D) := by
  intro A pins s σ H x y u v b sb I rx ry ⟨a, c, xs, ys, bs, ex, ey, ha, hc, hz, hb⟩
  subst ex ey
  cases rx
  cases ry
  obtain ⟨us, r, e1, _⟩ := I.tuple (.inl (.inl ha))
  obtain ⟨vs, r2, e2, _⟩ := I.tuple (.inl (.inl hc))
  have n1 : us.toArray.size = xs.length := by rw [List.size_toArray, ← r.length]
  have n2 : vs.toArray.size = ys.length := by rw [List.size_toArray, ← r2.length]
  have hl := hz.len
  have ans : ((List.range (min us.toArray.size vs.toArray.size)).all (fun i => bs.getD i true) && (us.toArray.size == vs.toArray.size)) = b := by
    rw [n1, n2, ← hl, all_getD, hb]
  refine rc_tuple_any (e := fun i => bs.getD i true) sb.room.units0 (fun _ s' => LoopI X pins σ H s') e1 e2 (fun i h1 h2 s' ⟨H1, I1, x1⟩ => ?_) (fun i s' q => ⟨by rw [ans], q⟩) ⟨H, I, Ext.rfl'⟩
  have k1 : i < xs.length := n1 ▸ h1
  have k2 : i < ys.length := n2 ▸ h2
  obtain ⟨p, hp, rp⟩ := r.get (List.getElem?_eq_getElem k1)
  obtain ⟨q, hq, rq⟩ := r2.get (List.getElem?_eq_getElem k2)
  obtain ⟨z, hz1, hz2⟩ := (hz.mon hD x1).get (List.getElem?_eq_getElem k1) (List.getElem?_eq_getElem k2)
  have g1 : us.toArray[i] = p := by
    have h1' : i < us.length := by simpa using h1
    rw [List.getElem?_eq_getElem h1'] at hp
    simpa using Option.some.inj hp
  have g2 : vs.toArray[i] = q := by
    have h2' : i < vs.length := by simpa using h2
    rw [List.getElem?_eq_getElem h2'] at hq
    simpa using Option.some.inj hq
  rw [g1, g2]
  refine wpAny_mono (h A.in1 pins s' σ H1 _ _ p q z sb.in1 I1 rp rq hz2) (fun t s2 ⟨ht, H2, I2, x2⟩ => ?_) fun _ _ z => z
  refine ⟨?_, H2, I2, x1.trans x2⟩
  rw [ht, List.getD_eq_getElem?_getD, hz1]
  rfl
/-- a value is equal to itself -/
def SelfB (D : Cmp) : Prop := ∀ x b H, D x x b H → b = true
theorem SelfB.or (h : SelfB D) (h' : SelfB D') : SelfB (fun x y b H => D x y b H ∨ D' x y b H) := fun x b H d => d.elim (h x b H) (h' x b H)
theorem eqV_self : ∀ x : V, flatV x = true → eqV x x = true
  | .non, _ => rfl
  | .bl b, _ => by show (b == b) = true; exact beq_self_eq_true b
  | .int i, _ => by show (i == i) = true; exact beq_self_eq_true i
  | .str z, _ => by show (z == z) = true; exact beq_self_eq_true z
theorem self_flat : SelfB CFlat := fun x b H ⟨h1, _, h3⟩ => h3 ▸ eqV_self x h1
theorem zip_self (h : SelfB D) {H : Hp} : ∀ {xs : List V} {bs : List Bool}, ZipB D xs xs bs H → bs.all id = true
  | [], [], _ => rfl
  | x :: xs, b :: bs, z => by
    rw [List.all_cons, zip_self h z.2, Bool.and_true]
    exact h x b H z.1
  | [], _ :: _, z => z.elim
  | _ :: _, [], z => z.elim
theorem self_tup (h : SelfB D) : SelfB (CTup D) := fun x b H ⟨a, c, xs, ys, bs, e1, e2, h1, h2, h3, h4⟩ => by
  subst e1
  cases e2
  rw [h1] at h2
  cases h2
  rw [h4, zip_self h h3]
  simp
theorem self_ins {C : Addr} {R : Addr → Addr → Bool → Hp → Prop} (h : ∀ a b H, R a a b H → b = true) : SelfB (CIns C R) := fun x b H ⟨a, c, _, _, _, _, e1, e2, _, _, hr⟩ => by
  subst e1
  cases e2
  exact h a b H hr
/-- the same object is equal to itself -/
theorem RcB.eqB (h : RcB X n D) (hr : ∀ x y b H, D x y b H → ∃ a c, x = .ref a ∧ y = .ref c) (hs : SelfB D) : EqB X n D := by
  intro A pins s σ H x y u v b sb I rx ry d
  obtain ⟨a, c, rfl, rfl⟩ := hr _ _ _ _ d
  cases rx
  cases ry
  by_cases hac : a = c
  · subst hac
    obtain rfl := hs _ _ _ d
    exact SeqAt.EqAt.same (A := A) (s := s) (.ref a) X.prog X.w X.xe _ ⟨rfl, H, I, Ext.rfl'⟩
  · exact GQ.eqBool_refG hac (wpAny_mono (h A pins s σ H (.ref a) (.ref c) _ _ b sb I rfl rfl d) (fun r s' ⟨q1, q2⟩ => ⟨b, q1, rfl, q2⟩) fun _ _ z => z)
/-- x == y as an expression -/
def rEqB (D : Cmp) : R2 := fun x y H Q => ∃ b, D x y b H ∧ ∀ H', Ext H H' → Q (.bl b) H'
theorem op_eqB (h : RcB X n D) (hr : Room n X.A) : OpR X (compareOp .Eq) (rEqB D) := by
  intro pins s σ H x y v u Q I rx ry ⟨b, d, q⟩
  show wpAny (model X.prog X.w) X.A (richCompare .Eq v u) (EP X pins σ Q) X.xe s
  refine wpAny_mono (h X.A pins s σ H x y v u b ⟨hr, rfl⟩ I rx ry d) (fun r s' ⟨z, H', I', e⟩ => ?_) fun _ _ z => z
  subst z
  exact ⟨.bl b, H', I', rfl, q H' e⟩
theorem rcB_ins {CX : CXT} {C f : Addr} {fd : FuncData} {ps : List Str} {R : Addr → Addr → Bool → Hp → Prop} {E : XK} (F : FnOk X.prog X.w X.K X.mg X.base CX n f fd ps (spEqB R))
    (hs : PySem.W.findIn X.K (.ref C) "__eq__" = some (some (.ref f))) (hf : PySem.W.isFn X.K (.ref f) = true) (hb : Binds X.K fd ps []) (hx : Passes CX X E) : RcB X n (CIns C R) := by
  intro A pins s σ H x y u v b sb I rx ry ⟨a, c, dx, dy, fs, gs, ex, ey, ha, hc, hr⟩
  subst ex ey
  cases rx
  cases ry
  obtain ⟨_, J, _⟩ := ins_get I.hok ha
  obtain ⟨_, J', _⟩ := ins_get I.hok hc
  obtain ⟨_, J, _⟩ := J.look
  obtain ⟨_, J', _⟩ := J'.look
  obtain ⟨m, hF⟩ := I.fr
  refine PySem.W.cmp_K (op := .Eq) (tb := .ref C) sb.room.units0 hF I.ok.mod.kin J J'.type (by simp [PySem.W.notFirst]) hs hf ?_
  have sp : spEqB R [.ref a, .ref c] H (fun v H' => v = .bl b ∧ Ext H H') E := ⟨a, c, b, rfl, hr, fun H' e => ⟨rfl, e⟩⟩
  have e0 := I.env0
  have e1 : Env0 X.prog X.w X.K X.mg X.base A X.stack s H := ⟨sb.fr.trans e0.frames, e0.mod, e0.bs, e0.bsz, e0.funs, e0.frf, e0.hok, e0.bare⟩
  have two : [Value.ref a, Value.ref c].length = ps.length := F.len _ _ _ _ sp
  have bnd := hb s [.ref a, .ref c] I.kIn (by rw [List.append_nil]; exact two)
  rw [List.append_nil] at bnd
  refine wpAny_call (codeAny_mono (F.run A X.stack s H ⟨[.ref a, .ref c], []⟩ [.ref a, .ref c] [.ref a, .ref c] _ E sb.room e1 bnd (.cons rfl (.cons rfl .nil)) sp) fun r s' hq => ?_)
  cases r with
  | error z => exact hx pins σ H s z s' I hq
  | ok fl =>
    cases fl with
    | ret t =>
      obtain ⟨z, H', I', rz, ez, ext⟩ := I.after hq
      subst ez
      cases rz
      exact ⟨rfl, H', I', ext⟩
    | next => exact False.elim hq
    | brk => exact False.elim hq
    | cont => exact False.elim hq
end
end FsQ

set_option Elab.async false
set_option linter.all false
set_option maxRecDepth 100000
set_option maxHeartbeats 4000000
/-! Two processes by the class's own ==, whatever the answer. -/
namespace Fs
open PySem L2 Evl FsE FsC FsR FsQ
noncomputable def same {α : Type} (x y : α) : Bool := @decide (x = y) (Classical.propDecidable _)
theorem same_iff {α : Type} {x y : α} : same x y = true ↔ x = y := @decide_eq_true_iff _ (Classical.propDecidable _)
theorem same_is {α : Type} {x y : α} {b : Bool} (h : b = true ↔ x = y) : b = same x y := Bool.eq_iff_iff.mpr (h.trans same_iff.symm)
theorem same_self {α : Type} (x : α) : same x x = true := same_iff.mpr rfl
/-! a process by where it stands -/
def kTag (k : Str) : Nat := if k = "choice" then 0 else if k = "new" then 1 else if k = "if" then 2 else 3
def Pr.tag : Pr → Nat
  | .choice _ => 0
  | .new _ _ _ => 1
  | .cond _ _ _ _ => 2
  | .call _ _ => 3
theorem tag_kind (p : Pr) : kTag p.kind = p.tag := by
  cases p with
  | choice os => show kTag "choice" = 0; decide +kernel
  | new n k r => show kTag "new" = 1; decide +kernel
  | cond l r y n => show kTag "if" = 2; decide +kernel
  | call n ops => show kTag "call" = 3; decide +kernel
theorem Opd.v_inj {o q : Opd} (h : o.v = q.v) : o = q := by
  cases o <;> cases q <;> cases h <;> rfl
theorem map_inj {α β : Type} {f : α → β} (hf : ∀ x y, f x = f y → x = y) : ∀ {xs ys : List α}, xs.map f = ys.map f → xs = ys
  | [], [], _ => rfl
  | [], _ :: _, h => nomatch h
  | _ :: _, [], h => nomatch h
  | x :: xs, y :: ys, h => by
    injection h with h1 h2
    rw [hf _ _ h1, map_inj hf h2]
theorem InsAt.uniq {C a t t' : Addr} {H : Hp} {k k' : Str} {d z d' z' : Int} (h : InsAt C H a k t d z) (g : InsAt C H a k' t' d' z') : k = k' ∧ t = t' := by
  obtain ⟨dx, h⟩ := h
  obtain ⟨dy, g⟩ := g
  rw [h] at g
  have e : pFlds k t d z = pFlds k' t' d' z' := by
    have := Option.some.inj g
    injection this
  have e1 : some (V.str k) = some (V.str k') := by rw [← pf_kind (k := k) (t := t) (d := d) (z := z), e, pf_kind]
  have e2 : some (V.ref t) = some (V.ref t') := by rw [← pf_parts (k := k) (t := t) (d := d) (z := z), e, pf_parts]
  cases e1
  cases e2
  exact ⟨rfl, rfl⟩
theorem kind_of {C a : Addr} {H : Hp} {p q : Pr} (h : PrAt C H a p) (g : PrAt C H a q) : p.tag = q.tag := by
  obtain ⟨t, ps, h1, _⟩ := h.ins
  obtain ⟨t', ps', g1, _⟩ := g.ins
  rw [← tag_kind, ← tag_kind, (h1.uniq g1).1]
mutual
theorem PrAt.uniq {C : Addr} {H : Hp} : ∀ {p q : Pr} {a : Addr}, PrAt C H a p → PrAt C H a q → p = q
  | .choice os, .choice qs, a, h, g => by
    unfold PrAt at h g
    obtain ⟨t, ps, h1, h2, h3⟩ := h
    obtain ⟨t', ps', g1, g2, g3⟩ := g
    obtain ⟨_, rfl⟩ := h1.uniq g1
    rw [h2] at g2
    cases g2
    rw [OfsAt.uniq h3 g3]
  | .new n k r, .new n' k' r', a, h, g => by
    unfold PrAt at h g
    obtain ⟨t, b, h1, h2, h3⟩ := h
    obtain ⟨t', b', g1, g2, g3⟩ := g
    obtain ⟨_, rfl⟩ := h1.uniq g1
    rw [h2] at g2
    cases g2
    rw [PrAt.uniq h3 g3]
  | .cond l r y n, .cond l' r' y' n', a, h, g => by
    unfold PrAt at h g
    obtain ⟨t, b, c, h1, h2, h3, h4⟩ := h
    obtain ⟨t', b', c', g1, g2, g3, g4⟩ := g
    obtain ⟨_, rfl⟩ := h1.uniq g1
    rw [h2] at g2
    injection g2 with g2
    injection g2 with g2
    injection g2 with e1 g2
    injection g2 with e2 g2
    injection g2 with e3 g2
    injection g2 with e4 g2
    cases e3
    cases e4
    rw [Opd.v_inj e1, Opd.v_inj e2, PrAt.uniq h3 g3, PrAt.uniq h4 g4]
  | .call n ops, .call n' ops', a, h, g => by
    unfold PrAt at h g
    obtain ⟨t, u, h1, h2, h3⟩ := h
    obtain ⟨t', u', g1, g2, g3⟩ := g
    obtain ⟨_, rfl⟩ := h1.uniq g1
    rw [h2] at g2
    cases g2
    rw [h3] at g3
    have e : ops.map Opd.v = ops'.map Opd.v := by
      have := Option.some.inj g3
      injection this
    rw [map_inj (fun _ _ => Opd.v_inj) e]
  | .choice _, .new _ _ _, _, h, g => absurd (kind_of h g) (by show ¬ 0 = 1; decide)
  | .choice _, .cond _ _ _ _, _, h, g => absurd (kind_of h g) (by show ¬ 0 = 2; decide)
  | .choice _, .call _ _, _, h, g => absurd (kind_of h g) (by show ¬ 0 = 3; decide)
  | .new _ _ _, .choice _, _, h, g => absurd (kind_of h g) (by show ¬ 1 = 0; decide)
  | .new _ _ _, .cond _ _ _ _, _, h, g => absurd (kind_of h g) (by show ¬ 1 = 2; decide)
  | .new _ _ _, .call _ _, _, h, g => absurd (kind_of h g) (by show ¬ 1 = 3; decide)
  | .cond _ _ _ _, .choice _, _, h, g => absurd (kind_of h g) (by show ¬ 2 = 0; decide)
  | .cond _ _ _ _, .new _ _ _, _, h, g => absurd (kind_of h g) (by show ¬ 2 = 1; decide)
  | .cond _ _ _ _, .call _ _, _, h, g => absurd (kind_of h g) (by show ¬ 2 = 3; decide)
  | .call _ _, .choice _, _, h, g => absurd (kind_of h g) (by show ¬ 3 = 0; decide)
  | .call _ _, .new _ _ _, _, h, g => absurd (kind_of h g) (by show ¬ 3 = 1; decide)
  | .call _ _, .cond _ _ _ _, _, h, g => absurd (kind_of h g) (by show ¬ 3 = 2; decide)
theorem OfsAt.uniq {C : Addr} {H : Hp} : ∀ {os qs : Ofs} {ps : List V}, OfsAt C H ps os → OfsAt C H ps qs → os = qs
  | .nil, .nil, _, _, _ => rfl
  | .nil, .cons _ _ _ _ _ _ _, ps, h, g => by
    unfold OfsAt at h g
    subst h
    obtain ⟨_, _, _, _, e, _⟩ := g
    cases e
  | .cons _ _ _ _ _ _ _, .nil, ps, h, g => by
    unfold OfsAt at h g
    subst g
    obtain ⟨_, _, _, _, e, _⟩ := h
    cases e
  | .cons c s m op ns r os, .cons c' s' m' op' ns' r' os', ps, h, g => by
    unfold OfsAt at h g
    obtain ⟨o, u, b, qs, rfl, h1, h2, h3, h4⟩ := h
    obtain ⟨o', u', b', qs', e, g1, g2, g3, g4⟩ := g
    cases e
    rw [h1] at g1
    injection g1 with g1
    injection g1 with g1
    injection g1 with e1 g1
    injection g1 with e2 g1
    injection g1 with e3 g1
    injection g1 with e4 g1
    injection g1 with e5 g1
    injection g1 with e6 g1
    cases e1
    cases e2
    cases e3
    cases e5
    cases e6
    rw [h2] at g2
    have e7 : ns.map V.str = ns'.map V.str := by
      have := Option.some.inj g2
      injection this
    rw [Opd.v_inj e4, map_inj (fun _ _ z => by cases z; rfl) e7, PrAt.uniq h3 g3, OfsAt.uniq h4 g4]
end
/-- processes, one of depth d at most -/
def RPrB (C : Addr) (d : Nat) (a c : Addr) (b : Bool) (H : Hp) : Prop := ∃ p q : Pr, p.depth ≤ (d : Int) ∧ PrAt C H a p ∧ PrAt C H c q ∧ b = same p q
theorem RPrB.ext {C : Addr} {d : Nat} {a c : Addr} {b : Bool} {H H' : Hp} (e : Ext H H') (h : RPrB C d a c b H) : RPrB C d a c b H' := by
  obtain ⟨p, q, hd, h1, h2, h3⟩ := h
  exact ⟨p, q, hd, h1.ex e, h2.ex e, h3⟩
theorem RPrB.self {C : Addr} {d : Nat} {a : Addr} {b : Bool} {H : Hp} (h : RPrB C d a a b H) : b = true := by
  obtain ⟨p, q, _, h1, h2, h3⟩ := h
  rw [h3, h1.uniq h2]
  exact same_self _
abbrev COr (D D' : Cmp) : Cmp := fun x y b H => D x y b H ∨ D' x y b H
abbrev CIt (C : Addr) (d : Nat) : Cmp := COr (COr CFlat (CTup CFlat)) (CIns C (RPrB C d))
abbrev CPt (C : Addr) (d : Nat) : Cmp := COr (CIt C d) (CTup (CIt C d))
theorem mon_itB {C : Addr} {d : Nat} : MonB (CIt C d) := (monB_flat.or (monB_tup monB_flat)).or (monB_ins fun _ _ _ _ _ e h => h.ext e)
theorem mon_ptB {C : Addr} {d : Nat} : MonB (CPt C d) := mon_itB.or (monB_tup mon_itB)
section
variable {C : Addr} {d : Nat} {H : Hp}
theorem bf_str {x y : Str} : CFlat (.str x) (.str y) (same x y) H := ⟨rfl, rfl, same_is (by show (x == y) = true ↔ x = y; exact beq_iff_eq)⟩
theorem bf_int {x y : Int} : CFlat (.int x) (.int y) (same x y) H := ⟨rfl, rfl, same_is (by show (x == y) = true ↔ x = y; exact beq_iff_eq)⟩
theorem bf_opd {o q : Opd} : CFlat o.v q.v (same o q) H := by
  cases o with
  | int i =>
    cases q with
    | int j => exact ⟨rfl, rfl, same_is (by show (i == j) = true ↔ _; rw [beq_iff_eq]; exact ⟨fun z => by rw [z], fun z => by cases z; rfl⟩)⟩
    | nm y => exact ⟨rfl, rfl, same_is (by show false = true ↔ _; exact ⟨(fun z => nomatch z), (fun z => nomatch z)⟩)⟩
  | nm x =>
    cases q with
    | int j => exact ⟨rfl, rfl, same_is (by show false = true ↔ _; exact ⟨(fun z => nomatch z), (fun z => nomatch z)⟩)⟩
    | nm y => exact ⟨rfl, rfl, same_is (by show (x == y) = true ↔ _; rw [beq_iff_eq]; exact ⟨fun z => by rw [z], fun z => by cases z; rfl⟩)⟩
theorem zip_fl {α : Type} {f : α → V} (hf : ∀ x y, CFlat (f x) (f y) (same x y) H) : ∀ (xs ys : List α), ∃ bs, ZipB CFlat (xs.map f) (ys.map f) bs H ∧ (bs.all id && ((xs.map f).length == (ys.map f).length)) = same xs ys
  | [], [] => ⟨[], trivial, (same_self _).symm⟩
  | [], y :: ys => ⟨[], trivial, same_is ⟨fun z => by simp at z, fun z => nomatch z⟩⟩
  | x :: xs, [] => ⟨[], trivial, same_is ⟨fun z => by simp at z, fun z => nomatch z⟩⟩
  | x :: xs, y :: ys => by
    obtain ⟨bs, h1, h2⟩ := zip_fl hf xs ys
    refine ⟨same x y :: bs, ⟨hf x y, h1⟩, same_is ?_⟩
    rw [List.all_cons, List.map_cons, List.map_cons, List.length_cons, List.length_cons]
    have e : ((xs.map f).length + 1 == (ys.map f).length + 1) = ((xs.map f).length == (ys.map f).length) := Bool.eq_iff_iff.mpr (by simp)
    rw [e, Bool.and_assoc, h2]
    show (same x y && same xs ys) = true ↔ _
    rw [Bool.and_eq_true, same_iff, same_iff, List.cons.injEq]
theorem bt_tup {α : Type} {f : α → V} (hf : ∀ x y, CFlat (f x) (f y) (same x y) H) {a c : Addr} {xs ys : List α} (ha : H a = some (.tup (xs.map f))) (hc : H c = some (.tup (ys.map f))) : CIt C d (.ref a) (.ref c) (same xs ys) H := by
  obtain ⟨bs, h1, h2⟩ := zip_fl hf xs ys
  exact .inl (.inr ⟨a, c, _, _, bs, rfl, rfl, ha, hc, h1, h2.symm⟩)
theorem bi_pr {a c : Addr} {p q : Pr} (hd : p.depth ≤ (d : Int)) (ha : PrAt C H a p) (hc : PrAt C H c q) : CIt C d (.ref a) (.ref c) (same p q) H := by
  obtain ⟨t, ps, ⟨dx, h1⟩, _⟩ := ha.out
  obtain ⟨t2, ps2, ⟨dy, h2⟩, _⟩ := hc.out
  exact .inr ⟨a, c, dx, dy, _, _, rfl, rfl, h1, h2, p, q, hd, ha, hc, rfl⟩
theorem bf_it {x y : V} {b : Bool} (h : CFlat x y b H) : CIt C d x y b H := .inl (.inl h)
theorem zip_ofs : ∀ {os qs : Ofs} {xs ys : List V}, os.depth ≤ (d : Int) → OfsAt C H xs os → OfsAt C H ys qs → ∃ bs, ZipB (CPt C d) xs ys bs H ∧ (bs.all id && (xs.length == ys.length)) = same os qs
  | .nil, .nil, xs, ys, _, h, g => by
    unfold OfsAt at h g
    subst h g
    exact ⟨[], trivial, (same_self _).symm⟩
  | .nil, .cons _ _ _ _ _ _ _, xs, ys, _, h, g => by
    unfold OfsAt at h g
    subst h
    obtain ⟨_, _, _, _, rfl, _⟩ := g
    exact ⟨[], trivial, same_is ⟨fun z => by simp at z, fun z => nomatch z⟩⟩
  | .cons _ _ _ _ _ _ _, .nil, xs, ys, _, h, g => by
    unfold OfsAt at h g
    subst g
    obtain ⟨_, _, _, _, rfl, _⟩ := h
    exact ⟨[], trivial, same_is ⟨fun z => by simp at z, fun z => nomatch z⟩⟩
  | .cons c s m op ns r os, .cons c' s' m' op' ns' r' os', xs, ys, hd, h, g => by
    rw [Ofs.depth] at hd
    unfold OfsAt at h g
    obtain ⟨o, u, b, zs, rfl, h1, h2, h3, h4⟩ := h
    obtain ⟨o', u', b', zs', rfl, g1, g2, g3, g4⟩ := g
    obtain ⟨bs, k1, k2⟩ := zip_ofs (by omega) h4 g4
    refine ⟨(same c c' && (same s s' && (same m m' && (same op op' && (same ns ns' && same r r'))))) :: bs, ⟨.inr ⟨o, o', _, _, [same c c', same s s', same m m', same op op', same ns ns', same r r'], rfl, rfl, h1, g1, ⟨bf_it bf_str, bf_it bf_int, bf_it bf_int, bf_it bf_opd, bt_tup (fun _ _ => bf_str) h2 g2, bi_pr (by omega) h3 g3, trivial⟩, ?_⟩, k1⟩, same_is ?_⟩
    · show _ = ((same c c' && (same s s' && (same m m' && (same op op' && (same ns ns' && (same r r' && true)))))) && true)
      rw [Bool.and_true, Bool.and_true]
    · rw [List.all_cons, List.length_cons, List.length_cons]
      have e : (zs.length + 1 == zs'.length + 1) = (zs.length == zs'.length) := Bool.eq_iff_iff.mpr (by simp)
      rw [e, Bool.and_assoc, k2]
      show ((same c c' && (same s s' && (same m m' && (same op op' && (same ns ns' && same r r'))))) && same os os') = true ↔ _
      simp only [Bool.and_eq_true, same_iff, Ofs.cons.injEq, and_assoc]
theorem zip_parts {p q : Pr} {xs ys : List V} (hk : p.kind = q.kind) (hd : p.depth ≤ (d : Int) + 1) (h : PartsAt C H xs p) (g : PartsAt C H ys q) : ∃ bs, ZipB (CPt C d) xs ys bs H ∧ (bs.all id && (xs.length == ys.length)) = same p q := by
  have ht : p.tag = q.tag := by rw [← tag_kind, ← tag_kind, hk]
  cases p with
  | choice os =>
    cases q with
    | choice qs =>
      rw [Pr.depth] at hd
      obtain ⟨bs, k1, k2⟩ := zip_ofs (C := C) (d := d) (H := H) (by omega) h g
      exact ⟨bs, k1, by rw [k2]; exact same_is (by rw [same_iff, Pr.choice.injEq])⟩
    | new _ _ _ => exact absurd ht (by show ¬ 0 = 1; decide)
    | cond _ _ _ _ => exact absurd ht (by show ¬ 0 = 2; decide)
    | call _ _ => exact absurd ht (by show ¬ 0 = 3; decide)
  | new n k r =>
    cases q with
    | new n' k' r' =>
      rw [Pr.depth] at hd
      obtain ⟨b, rfl, hb⟩ := h
      obtain ⟨b', rfl, hb'⟩ := g
      refine ⟨[same n n', same k k', same r r'], ⟨.inl (bf_it bf_str), .inl (bf_it bf_int), .inl (bi_pr (by omega) hb hb'), trivial⟩, same_is ?_⟩
      show ((same n n' && (same k k' && (same r r' && true))) && true) = true ↔ _
      simp only [Bool.and_eq_true, same_iff, Pr.new.injEq, and_true]
    | choice _ => exact absurd ht (by show ¬ 1 = 0; decide)
    | cond _ _ _ _ => exact absurd ht (by show ¬ 1 = 2; decide)
    | call _ _ => exact absurd ht (by show ¬ 1 = 3; decide)
  | cond l r y n =>
    cases q with
    | cond l' r' y' n' =>
      rw [Pr.depth] at hd
      obtain ⟨b, c, rfl, hb, hc⟩ := h
      obtain ⟨b', c', rfl, hb', hc'⟩ := g
      refine ⟨[same l l', same r r', same y y', same n n'], ⟨.inl (bf_it bf_opd), .inl (bf_it bf_opd), .inl (bi_pr (by omega) hb hb'), .inl (bi_pr (by omega) hc hc'), trivial⟩, same_is ?_⟩
      show ((same l l' && (same r r' && (same y y' && (same n n' && true)))) && true) = true ↔ _
      simp only [Bool.and_eq_true, same_iff, Pr.cond.injEq, and_true]
    | choice _ => exact absurd ht (by show ¬ 2 = 0; decide)
    | new _ _ _ => exact absurd ht (by show ¬ 2 = 1; decide)
    | call _ _ => exact absurd ht (by show ¬ 2 = 3; decide)
  | call n ops =>
    cases q with
    | call n' ops' =>
      obtain ⟨u, rfl, hu⟩ := h
      obtain ⟨u', rfl, hu'⟩ := g
      refine ⟨[same n n', same ops ops'], ⟨.inl (bf_it bf_str), .inl (bt_tup (fun _ _ => bf_opd) hu hu'), trivial⟩, same_is ?_⟩
      show ((same n n' && (same ops ops' && true)) && true) = true ↔ _
      simp only [Bool.and_eq_true, same_iff, Pr.call.injEq, and_true]
    | choice _ => exact absurd ht (by show ¬ 3 = 0; decide)
    | new _ _ _ => exact absurd ht (by show ¬ 3 = 1; decide)
    | cond _ _ _ _ => exact absurd ht (by show ¬ 3 = 2; decide)
end
section
variable {P : Program} {w : World} {K : PySem.W.Frag} {mg : Str → Option Value} {base : Heap} {C CB : Addr}
theorem scEqB : FnScope ["self", "other"] ["self", "other"] (defScope (inClass (topS 26) 6)) := ⟨rfl, rfl, rfl, by decide +kernel, rfl, by decide +kernel, by decide +kernel⟩
theorem eqB_pt {X : Cx} {f : Addr} {fd : FuncData} {d n : Nat} {E : XK} (hn : 1 ≤ n) (ih : FnOk X.prog X.w X.K X.mg X.base CX0 n f fd ["self", "other"] (spEqB (RPrB C d))) (at_ : PySem.W.findIn X.K (.ref C) "__eq__" = some (some (.ref f))) (fn : PySem.W.isFn X.K (.ref f) = true) (hb : Binds X.K fd ["self", "other"] []) (hx : Passes CX0 X E) : EqB X (n + 1) (CPt C d) := by
  have sf : SelfB (CIt C d) := (self_flat.or (self_tup self_flat)).or (self_ins fun a b H h => h.self)
  have e1 : EqB X 1 (CTup CFlat) := (rcB_tup monB_flat eqB_flat).eqB (fun _ _ _ _ ⟨a, c, _, _, _, hx, hy, _⟩ => ⟨a, c, hx, hy⟩) (self_tup self_flat)
  have e2 : EqB X n (CIns C (RPrB C d)) := (rcB_ins ih at_ fn hb hx).eqB (fun _ _ _ _ ⟨a, c, _, _, _, _, hx, hy, _⟩ => ⟨a, c, hx, hy⟩) (self_ins fun a b H h => h.self)
  have e3 : EqB X n (CIt C d) := ((eqB_flat.mono (Nat.zero_le _)).or (e1.mono hn)).or e2
  exact (e3.mono (Nat.le_succ _)).or ((rcB_tup mon_itB e3).eqB (fun _ _ _ _ ⟨a, c, _, _, _, hx, hy, _⟩ => ⟨a, c, hx, hy⟩) (self_tup sf))
theorem ok_eqB {f : Addr} {fd : FuncData} (F : Fun K "__eq__" "Process.__eq__" (inClass (topS 26) 6) f fd) (hi : mg "isinstance" = none) (T : TerT K mg C CB) (at_ : PySem.W.findIn K (.ref C) "__eq__" = some (some (.ref f))) (fn : PySem.W.isFn K (.ref f) = true) (hb : Binds K fd ["self", "other"] []) : ∀ d : Nat, FnOk P w K mg base CX0 (2 + 3 * d) f fd ["self", "other"] (spEqB (RPrB C d))
  | 0 => by
    refine F.ok scEqB (fun vs H Q E h => ?_) (fun cdv A outer s H vs Q E hr h => ?_)
    · obtain ⟨a, c, b, rfl, _⟩ := h
      rfl
    · obtain ⟨a, c, b, rfl, ⟨p, q, hp, _⟩, _⟩ := h
      have := Pr.depth_pos p
      exact absurd hp (by omega)
  | d + 1 => by
    have ih := ok_eqB F hi T at_ fn hb d
    have ek : 2 + 3 * (d + 1) = 2 + 3 * d + 2 + 1 := by omega
    rw [ek]
    refine F.ok scEqB (fun vs H Q E h => ?_) (fun cdv A outer s H vs Q E hr h => ?_)
    · obtain ⟨a, c, b, rfl, _⟩ := h
      rfl
    · obtain ⟨a, c, b, rfl, ⟨p, q, hp, ha, hc, hbb⟩, k⟩ := h
      refine ⟨_, pss_one (ps_ret (pe_and (pe_callB (id := "isinstance") (r := rIsi K) call_isi (by rfl) hi (by decide +kernel) (pa_cons (pv 1) (pa_cons (pe_glob (v := .ref C) (by rfl) T.mgC rfl) pa_nil)))
        (pe_and (pe_cmpR op_eq (pe_fld (pv 0) rfl) (pe_fld (pv 1) rfl) (nomark _))
          (pe_one (pe_cmpR (op_eqB (n := 2 + 3 * d + 1 + 1) (D := CTup (CPt C d)) (rcB_tup mon_ptB (eqB_pt (C := C) (d := d) (by omega) ih at_ fn hb pass0)) (hr.mono (by omega))) (pe_fld (pv 0) rfl) (pe_fld (pv 1) rfl) (nomark _)))))), ?_⟩
      obtain ⟨t, xs, ⟨dx, h1⟩, h2, h3⟩ := ha.out
      obtain ⟨t', ys, ⟨dy, g1⟩, g2, g3⟩ := hc.out
      have hkb : decide (V.str p.kind = V.str q.kind) = true ↔ p.kind = q.kind := by rw [decide_eq_true_eq]; exact ⟨fun z => by injection z, fun z => by rw [z]⟩
      refine s_ret (v := .bl b) (ev_is (ev_andV (a := true) (b := decide (V.str p.kind = V.str q.kind) && same p q) (ev_cb (ea_cons (ev_var rfl) (ea_cons ev_c ea_nil)) (rc_isiOwn (tyx_pr T hc) kOwn)) (fun _ => ev_andV (a := decide (V.str p.kind = V.str q.kind)) (b := same p q) (ev_op (ev_fld (ev_var rfl) h1 T.cl T.nK pf_kind) (ev_fld (ev_var rfl) g1 T.cl T.nK pf_kind) (rv_eq rfl)) (fun hk => ?_))) ?_) k
      · refine ev_op (ev_fld (ev_var rfl) h1 T.cl T.nP pf_parts) (ev_fld (ev_var rfl) g1 T.cl T.nP pf_parts) (fun H1 e1 Q' q' => ?_)
        obtain ⟨bs, z1, z2⟩ := zip_parts (C := C) (d := d) (H := H1) (hkb.mp hk) (by omega) (h3.ex e1) (g3.ex e1)
        exact ⟨same p q, ⟨t, t', xs, ys, bs, rfl, rfl, e1 _ _ h2, e1 _ _ g2, z1, z2.symm⟩, fun H2 e2 => q' H2 e2⟩
      · rw [hbb, Bool.true_and]
        refine congrArg V.bl (Bool.eq_iff_iff.mpr ?_)
        rw [Bool.and_eq_true, hkb, same_iff]
        exact ⟨fun z => z.2, fun z => ⟨by rw [z], z⟩⟩
end
end Fs

set_option Elab.async false
set_option linter.all false
set_option maxRecDepth 100000
set_option maxHeartbeats 8000000
/-! the law's terms as data -/
namespace Fs
open PySem L2 Evl FsE FsC FsR FsT FsK FsQ
def opdD : Opd → PyData
  | .int i => .int i
  | .nm z => .str z
mutual
def tmD : Pr → PyData
  | .choice os => .tuple [.str "choice", .list (ofD os)]
  | .new n k r => .tuple [.str "new", .str n, .int k, tmD r]
  | .cond l r y n => .tuple [.str "if", opdD l, opdD r, tmD y, tmD n]
  | .call n ops => .tuple [.str "call", .str n, .list (ops.map opdD)]
def ofD : Ofs → List PyData
  | .nil => []
  | .cons c s m op ns r os => .tuple [.str c, .int s, .int m, opdD op, .list (ns.map PyData.str), tmD r] :: ofD os
end
section
variable {K : PySem.W.Frag} {H : Hp}
theorem dp_opd : ∀ o : Opd, Dp K H o.v (opdD o)
  | .int i => .int i
  | .nm z => .str z
theorem dp_opds : ∀ ops : List Opd, DpAll K H (ops.map Opd.v) (ops.map opdD)
  | [] => .nil
  | o :: ops => .cons (dp_opd o) (dp_opds ops)
theorem dp_strsA : ∀ ns : List Str, DpAll K H (ns.map V.str) (ns.map PyData.str)
  | [] => .nil
  | n :: ns => .cons (.str n) (dp_strsA ns)
mutual
theorem dp_tm : ∀ {p : Pr} {a : Addr}, TrAt H a p → Dp K H (.ref a) (tmD p)
  | .choice os, a, h => by
    unfold TrAt at h
    obtain ⟨l, xs, h1, h2, h3⟩ := h
    unfold tmD
    exact .tup (st_of h1) (.cons (.str _) (.cons (.lst (sq_of h2) (dp_of h3)) .nil))
  | .new n k r, a, h => by
    unfold TrAt at h
    obtain ⟨b, h1, h2⟩ := h
    unfold tmD
    exact .tup (st_of h1) (.cons (.str _) (.cons (.str _) (.cons (.int _) (.cons (dp_tm h2) .nil))))
  | .cond l r y n, a, h => by
    unfold TrAt at h
    obtain ⟨b, c, h1, h2, h3⟩ := h
    unfold tmD
    exact .tup (st_of h1) (.cons (.str _) (.cons (dp_opd l) (.cons (dp_opd r) (.cons (dp_tm h2) (.cons (dp_tm h3) .nil)))))
  | .call n ops, a, h => by
    unfold TrAt at h
    obtain ⟨u, h1, h2⟩ := h
    unfold tmD
    exact .tup (st_of h1) (.cons (.str _) (.cons (.str _) (.cons (.lst (sq_of h2) (dp_opds ops)) .nil)))
theorem dp_of : ∀ {os : Ofs} {xs : List V}, OfsTr H xs os → DpAll K H xs (ofD os)
  | .nil, xs, h => by
    unfold OfsTr at h
    subst h
    unfold ofD
    exact .nil
  | .cons c s m op ns r os, xs, h => by
    unfold OfsTr at h
    obtain ⟨o, u, b, qs, rfl, h2, h3, h4, h5⟩ := h
    unfold ofD
    exact .cons (.tup (st_of h2) (.cons (.str _) (.cons (.int _) (.cons (.int _) (.cons (dp_opd op) (.cons (.lst (sq_of h3) (dp_strsA ns)) (.cons (dp_tm h4) .nil))))))) (dp_of h5)
end
end
theorem opd_dep (o : Opd) : (opdD o).depth = 0 := by
  cases o <;> simp [opdD, PyData.depth]
theorem opds_dep : ∀ ops : List Opd, PyData.depthAll (ops.map opdD) = 0
  | [] => by simp [PyData.depthAll]
  | o :: ops => by simp [PyData.depthAll, opd_dep, opds_dep ops]
theorem strs_dep : ∀ ns : List Str, PyData.depthAll (ns.map PyData.str) = 0
  | [] => by simp [PyData.depthAll]
  | n :: ns => by simp [PyData.depthAll, PyData.depth, strs_dep ns]
mutual
theorem tm_dep : ∀ p : Pr, ((tmD p).depth : Int) ≤ 3 * p.depth
  | .choice os => by
    have := of_dep os
    simp only [tmD, PyData.depth, PyData.depthAll, Pr.depth]
    omega
  | .new n k r => by
    have := tm_dep r
    simp only [tmD, PyData.depth, PyData.depthAll, Pr.depth]
    omega
  | .cond l r y n => by
    have := tm_dep y
    have := tm_dep n
    simp only [tmD, PyData.depth, PyData.depthAll, Pr.depth, opd_dep]
    omega
  | .call n ops => by
    simp only [tmD, PyData.depth, PyData.depthAll, Pr.depth, opds_dep]
    decide
theorem of_dep : ∀ os : Ofs, (PyData.depthAll (ofD os) : Int) ≤ 1 + 3 * os.depth
  | .nil => by
    simp only [ofD, PyData.depthAll, Ofs.depth]
    decide
  | .cons c s m op ns r os => by
    have := tm_dep r
    have := of_dep os
    have := Pr.depth_pos r
    simp only [ofD, PyData.depth, PyData.depthAll, Ofs.depth, opd_dep, strs_dep]
    omega
end
theorem opd_lay {o : Opd} (h : OpdQ o) : (opdD o).canLay0 = true := by
  cases o with
  | int i => simp [opdD, PyData.canLay0]
  | nm z => simpa [opdD, PyData.canLay0] using (show WordQ z from h).ok
theorem opds_lay : ∀ {ops : List Opd}, (∀ o ∈ ops, OpdQ o) → PyData.canLayAll0 (ops.map opdD) = true
  | [], _ => by simp [PyData.canLayAll0]
  | o :: ops, h => by simp [PyData.canLayAll0, opd_lay (h o (List.mem_cons_self ..)), opds_lay fun x hx => h x (List.mem_cons_of_mem _ hx)]
theorem strs_lay : ∀ {ns : List Str}, (∀ y ∈ ns, PyData.strOk y = true) → PyData.canLayAll0 (ns.map PyData.str) = true
  | [], _ => by simp [PyData.canLayAll0]
  | n :: ns, h => by simp [PyData.canLayAll0, PyData.canLay0, h n (List.mem_cons_self ..), strs_lay fun x hx => h x (List.mem_cons_of_mem _ hx)]
mutual
theorem tm_lay : ∀ {p : Pr}, AlQ p → (tmD p).canLay0 = true
  | .choice os, h => by
    unfold AlQ at h
    have e : PyData.strOk "choice" = true := by decide +kernel
    simp [tmD, PyData.canLay0, PyData.canLayAll0, of_lay h.2, e]
  | .new n k r, h => by
    unfold AlQ at h
    have e : PyData.strOk "new" = true := by decide +kernel
    simp [tmD, PyData.canLay0, PyData.canLayAll0, h.1.ok, tm_lay h.2.2.2, e]
  | .cond l r y n, h => by
    unfold AlQ at h
    have e : PyData.strOk "if" = true := by decide +kernel
    simp [tmD, PyData.canLay0, PyData.canLayAll0, opd_lay h.1, opd_lay h.2.1, tm_lay h.2.2.1, tm_lay h.2.2.2, e]
  | .call n ops, h => by
    unfold AlQ at h
    have e : PyData.strOk "call" = true := by decide +kernel
    simp [tmD, PyData.canLay0, PyData.canLayAll0, h.1.ok, opds_lay h.2.2, e]
theorem of_lay : ∀ {os : Ofs}, AlR os → PyData.canLayAll0 (ofD os) = true
  | .nil, _ => by simp [ofD, PyData.canLayAll0]
  | .cons c s m op ns r os, h => by
    unfold AlR at h
    obtain ⟨h1, h2, h3⟩ := h
    simp [ofD, PyData.canLay0, PyData.canLayAll0, h1.ch.ok, opd_lay h1.op, strs_lay fun y hy => (h1.nz y hy).2, tm_lay h2, of_lay h3]
end
theorem sh_tm {p : Pr} (h : AlQ p) (hd : p.depth ≤ 20) : SeqAt.shaped (tmD p) = true := by
  have := tm_dep p
  show ((tmD p).canLay0 && decide ((tmD p).depth ≤ 64)) = true
  rw [tm_lay h, decide_eq_true (by omega)]
  rfl
theorem eqv_opd (a b : Opd) : PyData.eqv (opdD a) (opdD b) = true ↔ a = b := by
  cases a <;> cases b <;> simp [opdD, PyData.eqv]
theorem eqv_opds : ∀ a b : List Opd, PyData.eqvAll (a.map opdD) (b.map opdD) = true ↔ a = b
  | [], [] => by simp [PyData.eqvAll]
  | [], _ :: _ => by simp [PyData.eqvAll]
  | _ :: _, [] => by simp [PyData.eqvAll]
  | x :: a, y :: b => by simp [PyData.eqvAll, eqv_opd, eqv_opds a b]
theorem eqv_strL (a b : List Str) : PyData.eqvAll (a.map PyData.str) (b.map PyData.str) = true ↔ a = b := by
  have h := PySem.W.eqvAll_map (α := Str) a b
  constructor
  · intro g
    have : decide (a = b) = true := h.symm.trans g
    exact of_decide_eq_true this
  · intro g
    exact h.trans (decide_eq_true g)
theorem tg : ((("choice" : Str) == "new") = false ∧ (("choice" : Str) == "if") = false ∧ (("choice" : Str) == "call") = false) ∧ ((("new" : Str) == "choice") = false ∧ (("new" : Str) == "if") = false ∧ (("new" : Str) == "call") = false) ∧ ((("if" : Str) == "choice") = false ∧ (("if" : Str) == "new") = false ∧ (("if" : Str) == "call") = false) ∧ ((("call" : Str) == "choice") = false ∧ (("call" : Str) == "new") = false ∧ (("call" : Str) == "if") = false) := by decide +kernel
mutual
theorem eqv_tm : ∀ p q : Pr, PyData.eqv (tmD p) (tmD q) = true ↔ p = q
  | .choice os, q => by
    obtain ⟨⟨t1, t2, t3⟩, _⟩ := tg
    cases q with
    | choice os' =>
      have := eqv_of os os'
      simp [tmD, PyData.eqv, PyData.eqvAll, this]
    | new => simp only [tmD, PyData.eqv, PyData.eqvAll, t1, Bool.false_and]; simp
    | cond => simp only [tmD, PyData.eqv, PyData.eqvAll, t2, Bool.false_and]; simp
    | call => simp only [tmD, PyData.eqv, PyData.eqvAll, t3, Bool.false_and]; simp
  | .new n k r, q => by
    obtain ⟨_, ⟨t1, t2, t3⟩, _⟩ := tg
    cases q with
    | new n' k' r' =>
      have := eqv_tm r r'
      simp [tmD, PyData.eqv, PyData.eqvAll, this]
    | choice => simp only [tmD, PyData.eqv, PyData.eqvAll, t1, Bool.false_and]; simp
    | cond => simp only [tmD, PyData.eqv, PyData.eqvAll, t2, Bool.false_and]; simp
    | call => simp only [tmD, PyData.eqv, PyData.eqvAll, t3, Bool.false_and]; simp
  | .cond l r y n, q => by
    obtain ⟨_, _, ⟨t1, t2, t3⟩, _⟩ := tg
    cases q with
    | cond l' r' y' n' =>
      have := eqv_tm y y'
      have := eqv_tm n n'
      simp [tmD, PyData.eqv, PyData.eqvAll, eqv_opd, *]
    | choice => simp only [tmD, PyData.eqv, PyData.eqvAll, t1, Bool.false_and]; simp
    | new => simp only [tmD, PyData.eqv, PyData.eqvAll, t2, Bool.false_and]; simp
    | call => simp only [tmD, PyData.eqv, PyData.eqvAll, t3, Bool.false_and]; simp
  | .call n ops, q => by
    obtain ⟨_, _, _, t1, t2, t3⟩ := tg
    cases q with
    | call n' ops' => simp [tmD, PyData.eqv, PyData.eqvAll, eqv_opds]
    | choice => simp only [tmD, PyData.eqv, PyData.eqvAll, t1, Bool.false_and]; simp
    | new => simp only [tmD, PyData.eqv, PyData.eqvAll, t2, Bool.false_and]; simp
    | cond => simp only [tmD, PyData.eqv, PyData.eqvAll, t3, Bool.false_and]; simp
theorem eqv_of : ∀ a b : Ofs, PyData.eqvAll (ofD a) (ofD b) = true ↔ a = b
  | .nil, b => by
    cases b with
    | nil => simp [ofD, PyData.eqvAll]
    | cons => simp [ofD, PyData.eqvAll]
  | .cons c s m op ns r os, b => by
    cases b with
    | nil => simp [ofD, PyData.eqvAll]
    | cons c' s' m' op' ns' r' os' =>
      have h1 := eqv_tm r r'
      have h2 := eqv_of os os'
      simp [ofD, PyData.eqv, PyData.eqvAll, eqv_opd, eqv_strL, h1, h2, and_assoc]
end
end Fs

set_option Elab.async false
set_option linter.all false
set_option maxRecDepth 100000
set_option maxHeartbeats 8000000
/-! words and operands changed -/
namespace Fs
open PySem L2 Evl FsE FsC FsR FsT FsK FsQ
def chW (z : Str) : Str := ("zz9" : Str) ++ cutS z none (some 1)
theorem app_cpsB (a y : Str) : (a ++ y).cps.toList = a.cps.toList ++ y.cps.toList := by
  show (a.cps ++ y.cps).toList = _
  rw [Array.toList_append]
theorem chw_ok : ∀ c ∈ lettersS.cps.toList, nameS (("zz9" : Str) ++ (⟨#[c]⟩ : Str)) = true ∧ (("zz9" : Str) ++ (⟨#[c]⟩ : Str)).length = 4 ∧ PyData.strOk (("zz9" : Str) ++ (⟨#[c]⟩ : Str)) = true := by decide +kernel
theorem str_extB {a b : Str} (h : a.cps.toList = b.cps.toList) : a = b := by
  obtain ⟨x⟩ := a
  obtain ⟨y⟩ := b
  exact congrArg Str.mk (Array.toList_inj.mp h)
/-- the first sign of a name -/
theorem name_head {z : Str} (h : nameS z = true) : ∃ c ∈ lettersS.cps.toList, cutS z none (some 1) = (⟨#[c]⟩ : Str) := by
  unfold nameS at h
  rw [Bool.and_eq_true, Bool.and_eq_true, Bool.and_eq_true, Bool.and_eq_true] at h
  obtain ⟨⟨⟨⟨h1, _⟩, h3⟩, _⟩, _⟩ := h
  have h1 := of_decide_eq_true h1
  have h3 := of_decide_eq_true h3
  cases e : z.cps.toList with
  | nil =>
    rw [str_len, e] at h1
    simp at h1
  | cons c r =>
    rw [e] at h3
    refine ⟨c, h3, str_extB ?_⟩
    have hl : z.length = r.length + 1 := by rw [str_len, e]; rfl
    show (List.toArray ((z.cps.toList.drop (HT.sIx z.length 0 none)).take (HT.sIx z.length z.length (some 1) - HT.sIx z.length 0 none))).toList = [c]
    rw [List.toList_toArray, e]
    have e1 : HT.sIx z.length 0 none = 0 := rfl
    have e2 : HT.sIx z.length z.length (some ((1 : Nat) : Int)) = 1 := by
      rw [HT.sIx_nat]
      omega
    rw [e1, show (some (1 : Int)) = some ((1 : Nat) : Int) from rfl, e2]
    rfl
theorem chw_q {z : Str} (h : nameS z = true) : WordQ (chW z) ∧ (chW z).length = 4 := by
  obtain ⟨c, hc, e⟩ := name_head h
  unfold chW
  rw [e]
  obtain ⟨h1, h2, h3⟩ := chw_ok c hc
  exact ⟨⟨h1, by omega, h3⟩, h2⟩
def chO : Opd → Opd
  | .int i => if 0 < i then .int (i - 1) else .int (i + 1)
  | .nm z => .nm (chW z)
theorem cho_q {o : Opd} (h : OpdOk o) : OpdQ (chO o) ∧ chO o ≠ o := by
  cases o with
  | int i =>
    have h1 : -(10 ^ 30) < i ∧ i < 10 ^ 30 := h
    have hp : (0 : Int) < 10 ^ 30 := by decide
    by_cases hi : 0 < i
    · rw [show chO (.int i) = .int (i - 1) from if_pos hi]
      refine ⟨⟨by omega, by omega⟩, fun z => ?_⟩
      injection z with z
      omega
    · rw [show chO (.int i) = .int (i + 1) from if_neg hi]
      refine ⟨⟨by omega, ?_⟩, fun z => ?_⟩
      · have : (1 : Int) < 10 ^ 30 := by decide
        omega
      · injection z with z
        omega
  | nm z =>
    have hw : WordOk z := h
    obtain ⟨g1, g2⟩ := chw_q hw.nm
    refine ⟨g1, fun y => ?_⟩
    have y' : chW z = z := by
      injection y
    rw [y'] at g2
    exact hw.n4 g2
section
variable {P : Program} {w : World} {K : PySem.W.Frag} {mg : Str → Option Value} {base : Heap} {C CB : Addr}
/-- _law_word_changed -/
def spWdC : Sp := fun vs H Q _ => ∃ z : Str, vs = [.str z] ∧ nameS z = true ∧ z.length ≤ 8 ∧ RetV (.str (chW z)) H Q
theorem scWdC : FnScope ["_law_word_here"] ["_law_word_here"] (defScope (topS 40)) := ⟨rfl, rfl, rfl, by decide +kernel, rfl, by decide +kernel, by decide +kernel⟩
theorem ok_wdC {f : Addr} {fd : FuncData} (F : Fun K "_law_word_changed" "_law_word_changed" (topS 40) f fd) : FnOk P w K mg base CX0 1 f fd ["_law_word_here"] spWdC := by
  refine F.ok scWdC (fun vs H Q E h => ?_) (fun cdv A outer s H vs Q E hr h => ?_)
  · obtain ⟨z, rfl, _⟩ := h
    rfl
  · obtain ⟨z, rfl, hn, hl, q⟩ := h
    refine ⟨_, pss_one (ps_ret (pe_op op_add_str pe_str (pe_slice sl_str (pv 0) po_none (po_some pe_int)))), ?_⟩
    obtain ⟨c, hc, e⟩ := name_head hn
    refine s_ret (v := .str (chW z)) (ev_op (x := .str "zz9") (y := .str (cutS z none (some 1))) ev_c (fun H1 e1 Q1 q1 => ⟨_, rfl, _, rfl, z, rfl, sz_of (by omega), q1 H1 (Ex.refl H1)⟩) (rv_cat (by rw [e]; show 3 + 1 ≤ 100000; decide))) q
/-- _law_operand_changed -/
def spOpC : Sp := fun vs H Q _ => ∃ o : Opd, vs = [o.v] ∧ OpdOk o ∧ RetV (chO o).v H Q
theorem scOpC : FnScope ["_law_operand_here"] ["_law_operand_here"] (defScope (topS 41)) := ⟨rfl, rfl, rfl, by decide +kernel, rfl, by decide +kernel, by decide +kernel⟩
theorem ok_opC {f : Addr} {fd : FuncData} (F : Fun K "_law_operand_changed" "_law_operand_changed" (topS 41) f fd) (B : BasT K mg) (GW : CalX P w K mg base CX0 1 "_law_word_changed" spWdC) : FnOk P w K mg base CX0 2 f fd ["_law_operand_here"] spOpC := by
  refine F.ok (k := 1) scOpC (fun vs H Q E h => ?_) (fun cdv A outer s H vs Q E hr h => ?_)
  · obtain ⟨o, rfl, _⟩ := h
    rfl
  · obtain ⟨o, rfl, ho, q⟩ := h
    refine ⟨_, pss_cons (ps_if (pt_val (pe_callB call_isi (by rfl) B.isinst (by decide +kernel) (pa_cons (pv 0) (pa_cons (pe_bltn (v := .ty "str") (by rfl) B.str (by decide +kernel) rfl) pa_nil)))) (pss_one (ps_ret (pe_cx (E := fun _ => E0) GW hr (by omega) (by rfl) at0 (pa_cons (pv 0) pa_nil)))) pss_nil)
      (pss_cons (ps_if (pt_cmpR op_gt (pv 0) pe_int (nomark _)) (pss_one (ps_ret (pe_op op_sub (pv 0) pe_int))) pss_nil)
      (pss_one (ps_ret (pe_op op_add (pv 0) pe_int)))), ?_⟩
    cases o with
    | int i =>
      refine q_when (b := false) (et_B (ev_cb (ea_cons (ev_var rfl) (ea_cons ev_c ea_nil)) (rc_isInt (by decide +kernel)))) (fun hb => nomatch hb) (fun _ H1 e1 => ?_)
      refine q_when (b := decide (0 < i)) (et_test (ev_op (x := .int i) (ev_var rfl) ev_c rv_I0)) (fun hb H2 e2 => ?_) (fun hb H2 e2 => ?_)
      · refine s_ret (v := .int (i - 1)) (ev_op (x := .int i) (ev_var rfl) ev_c rv_I0) (fun H3 e3 => ?_)
        have := q H3 ((e1.trans e2).trans e3)
        have e : chO (.int i) = .int (i - 1) := if_pos (of_decide_eq_true hb)
        rw [e] at this
        exact this
      · refine s_ret (v := .int (i + 1)) (ev_op (x := .int i) (ev_var rfl) ev_c rv_I0) (fun H3 e3 => ?_)
        have := q H3 ((e1.trans e2).trans e3)
        have e : chO (.int i) = .int (i + 1) := if_neg (of_decide_eq_false hb)
        rw [e] at this
        exact this
    | nm z =>
      have hw : WordOk z := ho
      refine q_when (b := true) (et_B (ev_cb (ea_cons (ev_var rfl) (ea_cons ev_c ea_nil)) (rc_isStr (by decide +kernel)))) (fun _ H1 e1 => ?_) (fun hb => nomatch hb)
      exact s_ret (v := .str (chW z)) (ev_cx (ea_cons (ev_var rfl) ea_nil) (fun H2 e2 Q2 q2 E2 => ⟨z, rfl, hw.nm, hw.len, q2⟩)) (fun H2 e2 => q H2 (e1.trans e2))
end
end Fs

set_option Elab.async false
set_option linter.all false
set_option maxRecDepth 100000
set_option maxHeartbeats 8000000
/-! a term with one part changed: allowed, no larger, another one -/
namespace Fs
open PySem L2 Evl FsE FsC FsR FsT FsK FsQ
abbrev OfF := Str × Int × Int × Opd × List Str × Pr
def ofL : Ofs → List OfF
  | .nil => []
  | .cons c s m op ns r os => (c, s, m, op, ns, r) :: ofL os
def toO : List OfF → Ofs
  | [] => .nil
  | f :: fs => .cons f.1 f.2.1 f.2.2.1 f.2.2.2.1 f.2.2.2.2.1 f.2.2.2.2.2 (toO fs)
theorem toO_ofL : ∀ os : Ofs, toO (ofL os) = os
  | .nil => rfl
  | .cons c s m op ns r os => by
    show Ofs.cons c s m op ns r (toO (ofL os)) = _
    rw [toO_ofL os]
theorem ofL_toO : ∀ fs : List OfF, ofL (toO fs) = fs
  | [] => rfl
  | f :: fs => by
    show (f.1, f.2.1, f.2.2.1, f.2.2.2.1, f.2.2.2.2.1, f.2.2.2.2.2) :: ofL (toO fs) = _
    rw [ofL_toO fs]
def FrAt (H : Hp) (v : V) (f : OfF) : Prop := ∃ o u b, v = .ref o ∧ H o = some (.tup [.str f.1, .int f.2.1, .int f.2.2.1, f.2.2.2.1.v, .ref u, .ref b]) ∧ H u = some (.lst (f.2.2.2.2.1.map V.str)) ∧ TrAt H b f.2.2.2.2.2
theorem FrAt.ex {H H' : Hp} (e : Ex H H') {v : V} {f : OfF} (h : FrAt H v f) : FrAt H' v f := by
  obtain ⟨o, u, b, h1, h2, h3, h4⟩ := h
  exact ⟨o, u, b, h1, e _ _ h2, e _ _ h3, h4.ex e⟩
theorem of_ls {H : Hp} : ∀ {os : Ofs} {xs : List V}, OfsTr H xs os → LsA FrAt H xs (ofL os)
  | .nil, xs, h => by
    unfold OfsTr at h
    subst h
    trivial
  | .cons c s m op ns r os, xs, h => by
    unfold OfsTr at h
    obtain ⟨o, u, b, qs, rfl, h2, h3, h4, h5⟩ := h
    exact ⟨⟨o, u, b, rfl, h2, h3, h4⟩, of_ls h5⟩
theorem ls_of {H : Hp} : ∀ {fs : List OfF} {xs : List V}, LsA FrAt H xs fs → OfsTr H xs (toO fs)
  | [], [], _ => by
    unfold toO OfsTr
    rfl
  | [], _ :: _, h => h.elim
  | _ :: _, [], h => h.elim
  | f :: fs, x :: xs, h => by
    obtain ⟨⟨o, u, b, h1, h2, h3, h4⟩, h5⟩ := h
    unfold toO OfsTr
    exact ⟨o, u, b, xs, by rw [h1], h2, h3, h4, ls_of h5⟩
def FOk (f : OfF) : Prop := OfQ f.1 f.2.1 f.2.2.1 f.2.2.2.1 f.2.2.2.2.1 ∧ AlQ f.2.2.2.2.2
theorem alr_of : ∀ {fs : List OfF}, (∀ f ∈ fs, FOk f) → AlR (toO fs)
  | [], _ => by
    unfold toO AlR
    trivial
  | f :: fs, h => by
    obtain ⟨h1, h2⟩ := h f (List.mem_cons_self ..)
    unfold toO AlR
    exact ⟨h1, h2, alr_of fun x hx => h x (List.mem_cons_of_mem _ hx)⟩
theorem of_alr : ∀ {os : Ofs}, AlR os → ∀ f ∈ ofL os, FOk f
  | .nil, _, f, hf => nomatch hf
  | .cons c s m op ns r os, h, f, hf => by
    unfold AlR at h
    rcases List.mem_cons.mp hf with rfl | hf
    · exact ⟨h.1, h.2.1⟩
    · exact of_alr h.2.2 f hf
theorem toO_len : ∀ fs : List OfF, (toO fs).len = fs.length
  | [] => rfl
  | f :: fs => by
    unfold toO Ofs.len
    rw [toO_len fs, List.length_cons]
def szs (fs : List OfF) : Int := (fs.map fun f => f.2.2.2.2.2.size).sum
theorem toO_sum : ∀ fs : List OfF, (toO fs).sum = szs fs
  | [] => by
    unfold toO Ofs.sum szs
    rfl
  | f :: fs => by
    unfold toO Ofs.sum szs
    rw [toO_sum fs, List.map_cons, List.sum_cons]
    rfl
theorem toO_dep : ∀ {fs : List OfF} {d : Int}, 0 ≤ d → (∀ f ∈ fs, f.2.2.2.2.2.depth ≤ d) → (toO fs).depth ≤ d
  | [], d, h0, _ => by
    unfold toO Ofs.depth
    exact h0
  | f :: fs, d, h0, h => by
    have h1 := h f (List.mem_cons_self ..)
    have h2 := toO_dep (fs := fs) h0 fun x hx => h x (List.mem_cons_of_mem _ hx)
    unfold toO Ofs.depth
    omega
theorem of_depth : ∀ {os : Ofs}, 0 ≤ os.depth ∧ ∀ f ∈ ofL os, f.2.2.2.2.2.depth ≤ os.depth
  | .nil => ⟨by unfold Ofs.depth; decide, fun f hf => nomatch hf⟩
  | .cons c s m op ns r os => by
    obtain ⟨h1, h2⟩ := @of_depth os
    refine ⟨by rw [Ofs.depth]; omega, fun f hf => ?_⟩
    rw [Ofs.depth]
    rcases List.mem_cons.mp hf with rfl | hf
    · show r.depth ≤ _
      omega
    · have := h2 f hf
      omega
theorem szs_nn : ∀ fs : List OfF, 0 ≤ szs fs
  | [] => by decide
  | f :: fs => by
    have h1 := Pr.size_pos f.2.2.2.2.2
    have h2 := szs_nn fs
    have e : szs (f :: fs) = f.2.2.2.2.2.size + szs fs := by
      unfold szs
      rw [List.map_cons, List.sum_cons]
    omega
theorem szs_app (a b : List OfF) : szs (a ++ b) = szs a + szs b := by
  unfold szs
  rw [List.map_append, List.sum_append]
theorem szs_one (f : OfF) : szs [f] = f.2.2.2.2.2.size := by
  unfold szs
  simp
theorem split_at {α : Type} {xs : List α} {k : Nat} {x : α} (h : xs[k]? = some x) : xs = xs.take k ++ [x] ++ xs.drop (k + 1) := by
  obtain ⟨h1, h2⟩ := List.getElem?_eq_some_iff.mp h
  conv => lhs; rw [← List.take_append_drop k xs, List.drop_eq_getElem_cons h1, h2]
  rw [List.append_assoc]
  rfl
/-- q is p with one part changed -/
structure Gd (p q : Pr) : Prop where
  al : AlQ q
  dep : q.depth ≤ p.depth
  siz : q.size ≤ p.size
  ne : q ≠ p
structure FGd (f g : OfF) : Prop where
  ok : FOk g
  dep : g.2.2.2.2.2.depth ≤ f.2.2.2.2.2.depth
  siz : g.2.2.2.2.2.size ≤ f.2.2.2.2.2.size
  ne : g ≠ f
theorem ch_dep (os : Ofs) : (Pr.choice os).depth = 1 + os.depth := by rw [Pr.depth]
theorem ch_siz (os : Ofs) : (Pr.choice os).size = max 1 (os.len : Int) + os.sum := by rw [Pr.size]
theorem gd_list {os : Ofs} {fs : List OfF} (h : AlQ (.choice os)) (ok : ∀ f ∈ fs, FOk f) (hd : ∀ f ∈ fs, f.2.2.2.2.2.depth ≤ os.depth) (hl : fs.length ≤ (ofL os).length) (hs : szs fs ≤ szs (ofL os)) (hne : fs ≠ ofL os) : Gd (.choice os) (.choice (toO fs)) := by
  have h' := h
  unfold AlQ at h'
  have el : os.len = (ofL os).length := by
    conv => lhs; rw [← toO_ofL os]
    exact toO_len _
  have es : os.sum = szs (ofL os) := by
    conv => lhs; rw [← toO_ofL os]
    exact toO_sum _
  refine ⟨?_, ?_, ?_, fun z => hne ?_⟩
  · unfold AlQ
    exact ⟨by rw [toO_len]; omega, alr_of ok⟩
  · rw [ch_dep, ch_dep]
    have := toO_dep (of_depth (os := os)).1 hd
    omega
  · rw [ch_siz, ch_siz, toO_len, toO_sum, el, es]
    omega
  · injection z with z
    rw [← z, ofL_toO]
theorem gd_rem {os : Ofs} {k : Nat} {f : OfF} (h : AlQ (.choice os)) (hk : (ofL os)[k]? = some f) : Gd (.choice os) (.choice (toO ((ofL os).take k ++ (ofL os).drop (k + 1)))) := by
  have h' := h
  unfold AlQ at h'
  have sp := split_at hk
  have sub : ∀ g ∈ (ofL os).take k ++ (ofL os).drop (k + 1), g ∈ ofL os := fun g hg => (List.mem_append.mp hg).elim List.mem_of_mem_take List.mem_of_mem_drop
  have len : ((ofL os).take k ++ (ofL os).drop (k + 1)).length + 1 = (ofL os).length := by
    conv => rhs; rw [sp]
    simp only [List.length_append, List.length_singleton]
    omega
  refine gd_list h (fun g hg => of_alr h'.2 g (sub g hg)) (fun g hg => (of_depth (os := os)).2 g (sub g hg)) (by omega) ?_ (fun z => by rw [z] at len; omega)
  have e : szs (ofL os) = szs ((ofL os).take k) + szs [f] + szs ((ofL os).drop (k + 1)) := by
    conv => lhs; rw [sp]
    rw [szs_app, szs_app]
  have := szs_nn [f]
  rw [szs_app]
  omega
theorem gd_rep {os : Ofs} {k : Nat} {f g : OfF} (h : AlQ (.choice os)) (hk : (ofL os)[k]? = some f) (hg : FGd f g) : Gd (.choice os) (.choice (toO ((ofL os).take k ++ [g] ++ (ofL os).drop (k + 1)))) := by
  have h' := h
  unfold AlQ at h'
  have sp := split_at hk
  have fm := List.mem_of_getElem? hk
  have cases_ : ∀ x ∈ (ofL os).take k ++ [g] ++ (ofL os).drop (k + 1), x = g ∨ x ∈ ofL os := fun x hx => by
    rcases List.mem_append.mp hx with hx | hx
    · rcases List.mem_append.mp hx with hx | hx
      · exact .inr (List.mem_of_mem_take hx)
      · exact .inl (List.mem_singleton.mp hx)
    · exact .inr (List.mem_of_mem_drop hx)
  have hdf := (of_depth (os := os)).2 f fm
  refine gd_list h (fun x hx => (cases_ x hx).elim (fun e => e ▸ hg.ok) (of_alr h'.2 x)) (fun x hx => (cases_ x hx).elim (fun e => by rw [e]; exact Int.le_trans hg.dep hdf) ((of_depth (os := os)).2 x)) ?_ ?_ (fun z => ?_)
  · conv => rhs; rw [sp]
    simp only [List.length_append, List.length_singleton]
    exact Nat.le_refl _
  · have e : szs (ofL os) = szs ((ofL os).take k) + szs [f] + szs ((ofL os).drop (k + 1)) := by
      conv => lhs; rw [sp]
      rw [szs_app, szs_app]
    have := hg.siz
    rw [szs_app, szs_app, e, szs_one, szs_one]
    omega
  · have z' : (ofL os).take k ++ [g] ++ (ofL os).drop (k + 1) = (ofL os).take k ++ [f] ++ (ofL os).drop (k + 1) := z.trans sp
    have z2 := List.append_cancel_right z'
    have z3 := List.append_cancel_left z2
    exact hg.ne (by injection z3)
theorem gd_rev {f g : OfF} (h : AlQ (.choice (toO [f, g]))) (hne : f ≠ g) : Gd (.choice (toO [f, g])) (.choice (toO [g, f])) := by
  have h' := h
  unfold AlQ at h'
  have e : ofL (toO [f, g]) = [f, g] := ofL_toO _
  have mem : ∀ x ∈ [g, f], x ∈ ofL (toO [f, g]) := fun x hx => by
    rw [e]
    rcases List.mem_cons.mp hx with rfl | hx
    · exact List.mem_cons_of_mem _ (List.mem_cons_self ..)
    · rw [List.mem_singleton.mp hx]
      exact List.mem_cons_self ..
  refine gd_list h (fun x hx => of_alr h'.2 x (mem x hx)) (fun x hx => (of_depth (os := toO [f, g])).2 x (mem x hx)) (by rw [e]; exact Nat.le_refl _) (by rw [e]; unfold szs; simp; omega) (fun z => ?_)
  rw [e] at z
  injection z with z1 z2
  exact hne z1.symm
theorem nf : WordQ "f" := ⟨by decide +kernel, by decide +kernel, by decide +kernel⟩
theorem gd_nil : Gd (.choice .nil) (.call "f" []) := by
  refine ⟨?_, ?_, ?_, fun z => nomatch z⟩
  · unfold AlQ
    exact ⟨nf, by decide, fun o ho => nomatch ho⟩
  · rw [Pr.depth, Pr.depth, Ofs.depth]
    decide
  · rw [Pr.size, Pr.size, Ofs.sum]
    decide
theorem gd_new1 {n : Str} {k : Int} {r : Pr} (h : AlP (.new n k r)) : Gd (.new n k r) (.new (chW n) k r) := by
  unfold AlP at h
  obtain ⟨g1, g2⟩ := chw_q h.1.nm
  refine ⟨?_, ?_, ?_, fun z => ?_⟩
  · unfold AlQ
    exact ⟨g1, h.2.1, h.2.2.1, al_q h.2.2.2⟩
  · rw [Pr.depth, Pr.depth]
    exact Int.le_refl _
  · rw [Pr.size, Pr.size]
    exact Int.le_refl _
  · injection z with z
    rw [z] at g2
    exact h.1.n4 g2
theorem gd_new2 {n : Str} {k : Int} {r : Pr} (h : AlP (.new n k r)) : Gd (.new n k r) (.new n (5 - k) r) := by
  unfold AlP at h
  refine ⟨?_, ?_, ?_, fun z => ?_⟩
  · unfold AlQ
    exact ⟨h.1.q, by omega, by omega, al_q h.2.2.2⟩
  · rw [Pr.depth, Pr.depth]
    exact Int.le_refl _
  · rw [Pr.size, Pr.size]
    exact Int.le_refl _
  · injection z with z1 z2
    omega
theorem gd_new3 {n : Str} {k : Int} {r r' : Pr} (h : AlP (.new n k r)) (g : Gd r r') : Gd (.new n k r) (.new n k r') := by
  unfold AlP at h
  have g1 := g.dep
  have g2 := g.siz
  refine ⟨?_, ?_, ?_, fun z => ?_⟩
  · unfold AlQ
    exact ⟨h.1.q, h.2.1, h.2.2.1, g.al⟩
  · rw [Pr.depth, Pr.depth]
    omega
  · rw [Pr.size, Pr.size]
    omega
  · injection z with z1 z2 z3
    exact g.ne z3
theorem gd_if {l r l' r' : Opd} {y n y' n' : Pr} (h1 : OpdQ l') (h2 : OpdQ r') (h3 : AlQ y') (h4 : AlQ n') (d1 : y'.depth ≤ y.depth) (d2 : n'.depth ≤ n.depth) (s1 : y'.size ≤ y.size) (s2 : n'.size ≤ n.size) (ne : l' ≠ l ∨ r' ≠ r ∨ y' ≠ y ∨ n' ≠ n) : Gd (.cond l r y n) (.cond l' r' y' n') := by
  refine ⟨?_, ?_, ?_, fun z => ?_⟩
  · unfold AlQ
    exact ⟨h1, h2, h3, h4⟩
  · rw [Pr.depth, Pr.depth]
    omega
  · rw [Pr.size, Pr.size]
    omega
  · injection z with z1 z2 z3 z4
    rcases ne with g | g | g | g
    · exact g z1
    · exact g z2
    · exact g z3
    · exact g z4
theorem gd_call {n n' : Str} {a b : List Opd} (h1 : WordQ n') (h2 : b.length ≤ 4) (h3 : ∀ o ∈ b, OpdQ o) (ne : n' ≠ n ∨ b ≠ a) : Gd (.call n a) (.call n' b) := by
  refine ⟨?_, ?_, ?_, fun z => ?_⟩
  · unfold AlQ
    exact ⟨h1, h2, h3⟩
  · rw [Pr.depth, Pr.depth]
    exact Int.le_refl _
  · rw [Pr.size, Pr.size]
    exact Int.le_refl _
  · injection z with z1 z2
    exact ne.elim (fun g => g z1) fun g => g z2
end Fs

set_option Elab.async false
set_option linter.all false
set_option maxRecDepth 100000
set_option maxHeartbeats 8000000
/-! what stands in a heap without certain places -/
namespace Fs
open PySem L2 Evl FsE FsC FsR FsT FsK FsQ
noncomputable def hid (X : Addr → Prop) (H : Hp) : Hp := fun a => @ite _ (X a) (Classical.propDecidable _) none (H a)
theorem hid_no {X : Addr → Prop} {H : Hp} {a : Addr} (h : ¬ X a) : hid X H a = H a := by
  unfold hid
  rw [if_neg h]
theorem hid_yes {X : Addr → Prop} {H : Hp} {a : Addr} (h : X a) : hid X H a = none := by
  unfold hid
  rw [if_pos h]
theorem hid_out {X : Addr → Prop} {H : Hp} {a : Addr} {o : HO} (h : hid X H a = some o) : ¬ X a ∧ H a = some o := by
  by_cases hx : X a
  · rw [hid_yes hx] at h
    cases h
  · rw [hid_no hx] at h
    exact ⟨hx, h⟩
theorem hid_in {X : Addr → Prop} {H : Hp} {a : Addr} {o : HO} (hx : ¬ X a) (h : H a = some o) : hid X H a = some o := by
  rw [hid_no hx]
  exact h
/-- what is hidden is there -/
def Hid (X : Addr → Prop) (H : Hp) : Prop := ∀ x, X x → H x ≠ none
theorem Hid.ex {X : Addr → Prop} {H H' : Hp} (e : Ex H H') (h : Hid X H) : Hid X H' := fun x hx hn => by
  cases hq : H x with
  | none => exact h x hx hq
  | some o =>
    rw [e _ _ hq] at hn
    cases hn
theorem Hid.new {X : Addr → Prop} {H : Hp} {a : Addr} (h : Hid X H) (ha : H a = none) : ¬ X a := fun hx => h a hx ha
theorem Ex.hid {X : Addr → Prop} {H H' : Hp} (e : Ex H H') : Ex (hid X H) (hid X H') := fun a o h => by
  obtain ⟨h1, h2⟩ := hid_out h
  exact hid_in h1 (e _ _ h2)
/-- one place more -/
def plus (X : Addr → Prop) (l : Addr) : Addr → Prop := fun a => X a ∨ a = l
theorem Hid.plus {X : Addr → Prop} {H : Hp} {l : Addr} {o : HO} (h : Hid X H) (hl : H l = some o) : Hid (plus X l) H := fun x hx hn => by
  rcases hx with hx | rfl
  · exact h x hx hn
  · rw [hl] at hn
    cases hn
theorem ex_plus {X : Addr → Prop} {H : Hp} {l : Addr} : Ex (hid (plus X l) H) (hid X H) := fun a o h => by
  obtain ⟨h1, h2⟩ := hid_out h
  exact hid_in (fun z => h1 (.inl z)) h2
/-- a place that was new is hidden with no loss -/
theorem ex_newp {X : Addr → Prop} {H H' : Hp} {l : Addr} (hl : H l = none) (e : Ex H H') : Ex (hid X H) (hid (plus X l) H') := fun a o h => by
  obtain ⟨h1, h2⟩ := hid_out h
  refine hid_in (fun z => ?_) (e _ _ h2)
  rcases z with z | rfl
  · exact h1 z
  · rw [hl] at h2
    cases h2
/-- what is done at a hidden place is not seen -/
theorem ex_updp {X : Addr → Prop} {H : Hp} {l : Addr} {o : HO} : Ex (hid (plus X l) H) (hid (plus X l) (upd H l o)) := fun a o' h => by
  obtain ⟨h1, h2⟩ := hid_out h
  refine hid_in h1 ?_
  rw [upd_ne (fun z => h1 (.inr z))]
  exact h2
theorem hid_ex {X : Addr → Prop} {H : Hp} : Ex (hid X H) H := fun a o h => (hid_out h).2
/-- the lists of what was changed -/
def ChT (X : Addr → Prop) (H : Hp) (xs : List V) (p : Pr) : Prop := ∀ v ∈ xs, ∃ a q, v = .ref a ∧ TrAt (hid X H) a q ∧ Gd p q
def ChF (X : Addr → Prop) (H : Hp) (xs : List V) (f : OfF) : Prop := ∀ v ∈ xs, ∃ g, FrAt (hid X H) v g ∧ FGd f g
theorem ChT.to {X Y : Addr → Prop} {H H' : Hp} {xs : List V} {p : Pr} (e : Ex (hid X H) (hid Y H')) (h : ChT X H xs p) : ChT Y H' xs p := fun v hv => by
  obtain ⟨a, q, h1, h2, h3⟩ := h v hv
  exact ⟨a, q, h1, h2.ex e, h3⟩
theorem ChF.to {X Y : Addr → Prop} {H H' : Hp} {xs : List V} {f : OfF} (e : Ex (hid X H) (hid Y H')) (h : ChF X H xs f) : ChF Y H' xs f := fun v hv => by
  obtain ⟨g, h2, h3⟩ := h v hv
  exact ⟨g, h2.ex e, h3⟩
theorem ChT.snoc {X : Addr → Prop} {H : Hp} {xs : List V} {p : Pr} {v : V} (h : ChT X H xs p) (hv : ∃ a q, v = .ref a ∧ TrAt (hid X H) a q ∧ Gd p q) : ChT X H (xs ++ [v]) p := fun u hu => (List.mem_append.mp hu).elim (h u) fun g => by
  rw [List.mem_singleton.mp g]
  exact hv
theorem ChF.snoc {X : Addr → Prop} {H : Hp} {xs : List V} {f : OfF} {v : V} (h : ChF X H xs f) (hv : ∃ g, FrAt (hid X H) v g ∧ FGd f g) : ChF X H (xs ++ [v]) f := fun u hu => (List.mem_append.mp hu).elim (h u) fun g => by
  rw [List.mem_singleton.mp g]
  exact hv
/-! an offer with one part changed -/
def rowOf (c : Str) (s m : Int) (op : Opd) (ns : List Str) (r : Pr) : OfF := (c, s, m, op, ns, r)
theorem fg_ch {c : Str} {s m : Int} {op : Opd} {ns : List Str} {r : Pr} (h : OfOk c s m op ns) (hr : AlP r) : FGd (rowOf c s m op ns r) (rowOf (chW c) s m op ns r) := by
  obtain ⟨g1, g2⟩ := chw_q h.ch.nm
  have q := h.q
  refine ⟨⟨⟨g1, q.m1, q.m4, q.s0, q.s1, q.op, q.nl, q.nd, q.nz⟩, al_q hr⟩, Int.le_refl _, Int.le_refl _, fun z => ?_⟩
  have z1 : chW c = c := congrArg (fun f : OfF => f.1) z
  rw [z1] at g2
  exact h.ch.n4 g2
theorem fg_op {c : Str} {s m : Int} {op : Opd} {ns : List Str} {r : Pr} (h : OfOk c s m op ns) (hr : AlP r) : FGd (rowOf c s m op ns r) (rowOf c s m (chO op) ns r) := by
  obtain ⟨g1, g2⟩ := cho_q h.op
  have q := h.q
  refine ⟨⟨⟨q.ch, q.m1, q.m4, q.s0, q.s1, g1, q.nl, q.nd, q.nz⟩, al_q hr⟩, Int.le_refl _, Int.le_refl _, fun z => ?_⟩
  exact g2 (congrArg (fun f : OfF => f.2.2.2.1) z)
theorem fg_st {c : Str} {s m : Int} {op : Opd} {ns : List Str} {r : Pr} (h : OfOk c s m op ns) (hr : AlP r) (hm : 1 < m) : FGd (rowOf c s m op ns r) (rowOf c ((s + 1) % m) m op ns r) := by
  have q := h.q
  have h0 := h.s0
  have h1 := h.s1
  have e : (s + 1) % m = if s + 1 = m then 0 else s + 1 := by
    by_cases hs : s + 1 = m
    · rw [if_pos hs, hs, Int.emod_self]
    · rw [if_neg hs]
      exact Int.emod_eq_of_lt (by omega) (by omega)
  refine ⟨⟨⟨q.ch, q.m1, q.m4, by show 0 ≤ (s + 1) % m; rw [e]; split <;> omega, by show (s + 1) % m < m; rw [e]; split <;> omega, q.op, q.nl, q.nd, q.nz⟩, al_q hr⟩, Int.le_refl _, Int.le_refl _, fun z => ?_⟩
  have z1 : (s + 1) % m = s := congrArg (fun f : OfF => f.2.1) z
  rw [e] at z1
  split at z1 <;> omega
theorem fg_rs {c : Str} {s m : Int} {op : Opd} {ns : List Str} {r r' : Pr} (h : OfOk c s m op ns) (g : Gd r r') : FGd (rowOf c s m op ns r) (rowOf c s m op ns r') :=
  ⟨⟨h.q, g.al⟩, g.dep, g.siz, fun z => g.ne (congrArg (fun f : OfF => f.2.2.2.2.2) z)⟩
theorem names_all {ns : List Str} (h : namesS ns = true) : (∀ y ∈ ns, nameS y = true) ∧ ns.Nodup := by
  unfold namesS at h
  obtain ⟨h1, h2⟩ := Bool.and_eq_true_iff.mp h
  refine ⟨fun y hy => ?_, of_decide_eq_true h2⟩
  have := List.all_eq_true.mp h1 (nameS y) (List.mem_map.mpr ⟨y, hy, rfl⟩)
  exact this
theorem names_of {ns : List Str} (h : ∀ y ∈ ns, nameS y = true) (nd : ns.Nodup) : namesS ns = true := by
  unfold namesS
  rw [decide_eq_true nd, Bool.and_true]
  refine List.all_eq_true.mpr fun b hb => ?_
  obtain ⟨y, hy, rfl⟩ := List.mem_map.mp hb
  exact h y hy
theorem zz8 : nameS "zz8" = true ∧ ("zz8" : Str).length = 3 ∧ PyData.strOk "zz8" = true := by decide +kernel
theorem fg_mr {c : Str} {s m : Int} {op : Opd} {ns : List Str} {r : Pr} (h : OfOk c s m op ns) (hr : AlP r) (hm : m < 4) : FGd (rowOf c s m op ns r) (rowOf c s (m + 1) op (ns ++ [("zz8" : Str)]) r) := by
  have q := h.q
  obtain ⟨n1, n2⟩ := names_all h.nd
  obtain ⟨z1, z2, z3⟩ := zz8
  have h1 := h.m1
  have h2 := h.s1
  have h3 := h.nl
  refine ⟨⟨⟨q.ch, by show 1 ≤ m + 1; omega, by show m + 1 ≤ 4; omega, q.s0, by show s < m + 1; omega, q.op, by show ((ns ++ [("zz8" : Str)]).length : Int) = m + 1 - 1; rw [List.length_append]; show ((ns.length + 1 : Nat) : Int) = _; omega, names_of (fun y hy => ?_) ?_, fun y hy => ?_⟩, al_q hr⟩, Int.le_refl _, Int.le_refl _, fun z => ?_⟩
  · rcases List.mem_append.mp hy with hy | hy
    · exact n1 y hy
    · rw [List.mem_singleton.mp hy]
      exact z1
  · refine List.nodup_append.mpr ⟨n2, List.pairwise_singleton _ _, fun a ha b hb e => ?_⟩
    rw [List.mem_singleton.mp hb] at e
    have := (h.nz a ha).1
    rw [e, z2] at this
    omega
  · rcases List.mem_append.mp hy with hy | hy
    · exact q.nz y hy
    · rw [List.mem_singleton.mp hy]
      exact ⟨by omega, z3⟩
  · have : m + 1 = m := congrArg (fun f : OfF => f.2.2.1) z
    omega
theorem fg_nm {c : Str} {s m : Int} {op : Opd} {ns : List Str} {r : Pr} {k : Nat} {y : Str} (h : OfOk c s m op ns) (hr : AlP r) (hk : ns[k]? = some y) : FGd (rowOf c s m op ns r) (rowOf c s m op (ns.take k ++ [chW y] ++ ns.drop (k + 1)) r) := by
  have q := h.q
  obtain ⟨n1, n2⟩ := names_all h.nd
  have hy := List.mem_of_getElem? hk
  obtain ⟨g1, g2⟩ := chw_q (n1 y hy)
  have sp := split_at hk
  have len : (ns.take k ++ [chW y] ++ ns.drop (k + 1)).length = ns.length := by
    conv => rhs; rw [sp]
    simp only [List.length_append, List.length_singleton]
  have two : ∀ x ∈ ns, x.length ≤ 2 := fun x hx => (h.nz x hx).1
  have sub : ∀ x ∈ ns.take k ++ [chW y] ++ ns.drop (k + 1), x = chW y ∨ x ∈ ns := fun x hx => by
    rcases List.mem_append.mp hx with hx | hx
    · rcases List.mem_append.mp hx with hx | hx
      · exact .inr (List.mem_of_mem_take hx)
      · exact .inl (List.mem_singleton.mp hx)
    · exact .inr (List.mem_of_mem_drop hx)
  refine ⟨⟨⟨q.ch, q.m1, q.m4, q.s0, q.s1, q.op, by show ((ns.take k ++ [chW y] ++ ns.drop (k + 1)).length : Int) = m - 1; rw [len]; exact q.nl, names_of (fun x hx => (sub x hx).elim (fun e => e ▸ g1.nm) (n1 x)) ?_, fun x hx => (sub x hx).elim (fun e => e ▸ ⟨g1.len, g1.ok⟩) (q.nz x)⟩, al_q hr⟩, Int.le_refl _, Int.le_refl _, fun z => ?_⟩
  · rw [sp] at n2
    obtain ⟨a1, a2, a3⟩ := List.nodup_append.mp n2
    obtain ⟨b1, b2, b3⟩ := List.nodup_append.mp a1
    have no : ∀ x ∈ ns, x ≠ chW y := fun x hx e => by
      have := two x hx
      rw [e, g2] at this
      omega
    refine List.nodup_append.mpr ⟨List.nodup_append.mpr ⟨b1, List.pairwise_singleton _ _, fun a ha b hb => ?_⟩, a2, fun a ha b hb => ?_⟩
    · rw [List.mem_singleton.mp hb]
      exact no a (List.mem_of_mem_take ha)
    · rcases List.mem_append.mp ha with ha | ha
      · exact a3 a (List.mem_append_left _ ha) b hb
      · rw [List.mem_singleton.mp ha]
        exact fun e => no b (List.mem_of_mem_drop hb) e.symm
  · have z1 : ns.take k ++ [chW y] ++ ns.drop (k + 1) = ns := congrArg (fun f : OfF => f.2.2.2.2.1) z
    have hm : chW y ∈ ns := by
      rw [← z1]
      exact List.mem_append_left _ (List.mem_append_right _ (List.mem_singleton.mpr rfl))
    have := two _ hm
    omega
end Fs

set_option Elab.async false
set_option linter.all false
set_option maxRecDepth 100000
set_option maxHeartbeats 4000000
/-! what instances of some classes and tuples are stays -/
namespace Fs
open PySem L2 Evl FsE FsC FsR
structure ExC (C : Addr) (H H' : Hp) : Prop where
  ins : ∀ a dx fs, H a = some (.ins C dx fs) → H' a = some (.ins C dx fs)
  tup : ∀ a xs, H a = some (.tup xs) → H' a = some (.tup xs)
theorem ExC.of {C : Addr} {H H' : Hp} (e : Ex H H') : ExC C H H' := ⟨fun _ _ _ h => e _ _ h, fun _ _ h => e _ _ h⟩
theorem ExC.trans {C : Addr} {H H1 H2 : Hp} (e : ExC C H H1) (f : ExC C H1 H2) : ExC C H H2 := ⟨fun a dx fs h => f.ins _ _ _ (e.ins _ _ _ h), fun a xs h => f.tup _ _ (e.tup _ _ h)⟩
theorem ExC.updL {C l : Addr} {H : Hp} {xs : List V} {o : HO} (h : H l = some (.lst xs)) : ExC C H (upd H l o) := ⟨fun a dx fs ha => by
    rw [upd_ne (fun z => by rw [z, h] at ha; cases ha)]
    exact ha, fun a ys ha => by
    rw [upd_ne (fun z => by rw [z, h] at ha; cases ha)]
    exact ha⟩
mutual
theorem PrAt.keepC {C : Addr} {H H' : Hp} (e : ExC C H H') : ∀ {p : Pr} {a : Addr}, PrAt C H a p → PrAt C H' a p
  | .choice os, a, h => by
    unfold PrAt at h ⊢
    obtain ⟨t, ps, ⟨dx, h1⟩, h2, h3⟩ := h
    exact ⟨t, ps, ⟨dx, e.ins _ _ _ h1⟩, e.tup _ _ h2, OfsAt.keepC e h3⟩
  | .new n k r, a, h => by
    unfold PrAt at h ⊢
    obtain ⟨t, b, ⟨dx, h1⟩, h2, h3⟩ := h
    exact ⟨t, b, ⟨dx, e.ins _ _ _ h1⟩, e.tup _ _ h2, PrAt.keepC e h3⟩
  | .cond l r y n, a, h => by
    unfold PrAt at h ⊢
    obtain ⟨t, b, c, ⟨dx, h1⟩, h2, h3, h4⟩ := h
    exact ⟨t, b, c, ⟨dx, e.ins _ _ _ h1⟩, e.tup _ _ h2, PrAt.keepC e h3, PrAt.keepC e h4⟩
  | .call n ops, a, h => by
    unfold PrAt at h ⊢
    obtain ⟨t, u, ⟨dx, h1⟩, h2, h3⟩ := h
    exact ⟨t, u, ⟨dx, e.ins _ _ _ h1⟩, e.tup _ _ h2, e.tup _ _ h3⟩
theorem OfsAt.keepC {C : Addr} {H H' : Hp} (e : ExC C H H') : ∀ {os : Ofs} {ps : List V}, OfsAt C H ps os → OfsAt C H' ps os
  | .nil, ps, h => by
    unfold OfsAt at h ⊢
    exact h
  | .cons c s m op ns r os, ps, h => by
    unfold OfsAt at h ⊢
    obtain ⟨o, u, b, qs, h1, h2, h3, h4, h5⟩ := h
    exact ⟨o, u, b, qs, h1, e.tup _ _ h2, e.tup _ _ h3, PrAt.keepC e h4, OfsAt.keepC e h5⟩
end
end Fs

set_option Elab.async false
set_option linter.all false
set_option maxRecDepth 100000
set_option maxHeartbeats 4000000
/-! try: body, several clauses, each with its own name: except x as n: suite. -/
namespace FsT
open PySem PySem.Spec PyProof.Rows L2
abbrev Cls3 := Value × Nat × (Addr → Value → Option Addr → TS)
/-- the ends of a suite whose name goes behind it -/
def offN (i : Nat) (D : Ends) : Ends := { nx := fun τ G => D.nx (τ.set i none) G, rt := D.rt, bk := fun τ G => D.bk (τ.set i none) G, ct := fun τ G => D.ct (τ.set i none) G }
/-- what the clauses wish, in their order -/
def wAll (K : PySem.W.Frag) (W0 : WX) (D : Ends) : List Cls3 → WX
  | [] => W0
  | q :: more => fun cls d τ G => ∃ b, PySem.W.exmOne K cls q.1 = some b ∧ (b = true → ∀ x, G x = none → q.2.2 x cls d (offN q.2.1 D) (τ.set q.2.1 (some (.ref x))) G) ∧ (b = false → wAll K W0 D more cls d τ G)
inductive Clauses (X : Cx) : List ExceptHandler → List Cls3 → Prop
  | none : Clauses X [] []
  | one {y n : Str} {c : Value} {i : Nat} {ts : Addr → Value → Option Addr → TS} {st : Stmt} {sts : List Stmt} {p1 p2 : Pos} {hs : List ExceptHandler} {qs : List Cls3} (at_ : X.N[i]? = some n) (loc : X.env.kindOf n = some .local) (nm : Names X y c)
      (su : ∀ (x : Addr) (o : Obj) (cls : Value) (d : Option Addr) (pn : List (Addr × Obj)), Zc cls d o → (∃ vs, o.data = .fields vs) → PSs (X.suite x ((x, o) :: pn)) (st :: sts) (ts x cls d)) (more : Clauses X hs qs) :
      Clauses X (.ExceptHandler (some (.Name y p1)) (some n) (st :: sts) p2 :: hs) ((c, i, ts) :: qs)
section
variable {X : Cx} {body : List Stmt} {h₀ : ExceptHandler} {hds : List ExceptHandler} {qs : List Cls3} {pos : Pos} {tb : WX → TS} {W0 : WX}
theorem ps_try_all (st : X.stack = X.env :: X.outer) (fr : X.env.frame = some X.env.locals) (nd : X.N.Nodup) (tk : Takes X W0)
    (hb : ∀ (W : WX) (pn : List (Addr × Obj)) (xe : Value → Shared → Prop), Takes (X.tr pn xe) W → PassesOwn (model X.prog X.w) X.A X.env xe → PSs (X.tr pn xe) body (tb W))
    (hh : Clauses X (h₀ :: hds) qs) : PS X (.Try body (h₀ :: hds) [] [] pos) (fun D τ G => tb (wAll X.K W0 D qs) D τ G) := by
  refine ⟨fun pins s τ G D I h => ?_⟩
  have ok := I.ok
  have afr : X.A.frames = some (X.env :: X.outer) := ok.frames.trans (congrArg some st)
  refine wpAny_Try_except (wpAny_mono ((hb (wAll X.K W0 D qs) (X.pn ++ pins) (fun e s₁ => wpAny (model X.prog X.w) X.A (noteFrame e X.env) (fun _ s₂ => wpAny (model X.prog X.w) X.A (setFlight e none) (fun _ s₃ =>
    wpAny (model X.prog X.w) X.A (handleBy e X.env (h₀ :: hds)) (SP X pins D) X.xe s₃) X.xe s₂) X.xe s₁) (fun u s' fly => ?_) PassesOwn.looking).run [] s τ G D (I.toTry _) h) (fun fl s1 z => ?_) (fun _ _ z => z))
  rotate_left
  · cases fl with
    | ret u => exact let ⟨v, τ1, G1, J, r, q⟩ := z; ⟨v, τ1, G1, J.ofTry ok, r, q⟩
    | next => exact let ⟨τ1, G1, J, q⟩ := z; wpAny_execs_nil ⟨τ1, G1, J.ofTry ok, q⟩
    | brk => exact let ⟨τ1, G1, J, q⟩ := z; ⟨τ1, G1, J.ofTry ok, q⟩
    | cont => exact let ⟨τ1, G1, J, q⟩ := z; ⟨τ1, G1, J.ofTry ok, q⟩
  obtain ⟨x, B, sI, pins1, τ1, G1, cls, d, rfl, Jt, nb, up, sky, nx, os, ag, w⟩ := fly
  have J : Inv X pins τ1 G1 sI := Jt.ofTry ok
  show wpAny (model X.prog X.w) X.A (noteFrame (.ref x) X.env) _ _ _
  refine Sky.land Zc.steady afr fr (show Sky B (X.env :: X.outer) x (Zc cls d) X.env.locals s'.heap from st ▸ sky) fun g fg ug => ?_
  obtain ⟨o, vs, ho, hz, hd⟩ := fg.there
  have out : x ∉ frs (X.env :: X.outer) := fun hm => by
    obtain ⟨_, o', eo, bad⟩ := fg.2.2.1.mem hm
    rw [ho] at eo
    cases eo
    exact bad _ hd
  have n1 : x ≠ X.env.locals := fun z => out (List.mem_filterMap.mpr ⟨X.env, List.mem_cons_self, fr.trans (congrArg some z.symm)⟩)
  have n2 : x ∉ X.fs := fun hm => let ⟨e, he, q⟩ := List.mem_filterMap.mp hm; out (List.mem_filterMap.mpr ⟨e, List.mem_cons_of_mem _ he, q⟩)
  have Jg : Inv X pins τ1 G1 { s' with heap := g } := J.landed nb fg.1 (up.trans ug) os ag
  have S := Jg.suite ho hd nx n1 n2
  have kin : X.K.In g := Jg.kIn
  have every : ∀ {hs : List ExceptHandler} {l : List Cls3}, Clauses X hs l → wAll X.K W0 D l cls d τ1 G1 → wpAny (model X.prog X.w) X.A (handleBy (.ref x) X.env hs) (SP X pins D) X.xe { s' with heap := g } := by
    intro hs l cl
    induction cl with
    | none =>
      intro w
      obtain ⟨_, _, _, o1, vs1, T, oT, ts1, e1, _, e2, e3, _⟩ := id fg
      have up1 : wpAny (model X.prog X.w) X.A (setFlight (.ref x) X.env.frame) (fun _ s4 => wpAny (model X.prog X.w) X.A (throw (.ref x) : Sem Flow) (SP X pins D) X.xe s4) X.xe { s' with heap := g } := fr ▸ HandSPX.setFlight_upZ fg fun g2 held ug2 => wpAny_throw (tk _ _
        ⟨x, B, sI, pins, τ1, G1, cls, d, rfl, J, nb, (up.trans ug).trans ug2, .inr (.inr (by rw [st]; exact held)), nx, os, ag, w⟩)
      refine wpAny_handleBy_nil ?_
      unfold PySem.passOn
      refine wpAny_bind (wpAny_field e1 e2 e3 ?_)
      rw [if_neg (by simp : ¬ ((Value.ref T == Value.none) = true))]
      first
        | exact wpAny_bind (wpAny_pure (wpAny_bind up1))
        | exact wpAny_bind up1
    | @one y n c i ts st1 sts1 p1 p2 hs1 qs1 at_ loc nm su more ih =>
      rintro ⟨b, eb, yes, no⟩
      have tyx : PySem.W.Looks (model X.prog X.w) g (typeOf (.ref x)) cls := fun A Q E s k q => wpAny_typeOf_ref (k _ _ ho) (hz.1 ▸ q)
      refine wpAny_handleBy_cons (codeAny_handlers_test ?_) (by intro q; cases q)
      have named : ∀ {Q : Value → Shared → Prop} {E : Value → Shared → Prop}, Q c { s' with heap := g } → wpAny (model X.prog X.w) (X.A.mark (some (.ref x))) (eval (.Name y p1) X.env) Q E { s' with heap := g } := fun {Q E} q => by
        rcases nm with ⟨gl, db, hm | ⟨hm, hv, hnn⟩⟩
        · exact ld_glob (X := X.suite x ((x, o) :: (X.pn ++ pins))) S gl hm q db
        · exact ld_blt (X := X.suite x ((x, o) :: (X.pn ++ pins))) S gl hm hv q hnn db
      refine named ((PySem.W.exm_one (M := model X.prog X.w) kin tyx eb).here ?_)
      cases b with
      | false => exact ih (no rfl)
      | true =>
        refine codeAny_handlers_suite_as (HandSPX.lands_againZ fg fun g2 fg2 ug2 => ?_)
        obtain ⟨o2, vs2, ho2, hz2, hd2⟩ := fg2.there
        have Jg2 : Inv X pins τ1 G1 { s' with heap := g2 } := J.landed nb fg2.1 ((up.trans ug).trans ug2) os ag
        have S2 := Jg2.suite ho2 hd2 nx n1 n2
        refine store_ok (X := X.suite x ((x, o2) :: (X.pn ++ pins))) (v := .ref x) S2 nd at_ (.inl loc) rfl (fun s5 S5 => ?_) (.inr loc)
        refine wpAny_mono ((su x o2 cls d (X.pn ++ pins) hz2 ⟨_, hd2⟩).run [] s5 _ G1 _ S5 (yes rfl x nx)) (fun fl s6 z => ?_) (fun _ _ z => False.elim z)
        have goes : ∀ {τ6 : L2.St} {G6 : Hp} {Q : Shared → Prop}, Inv (X.suite x ((x, o2) :: (X.pn ++ pins))) [] τ6 G6 s6 → (∀ s7, Inv X pins (τ6.set i none) G6 s7 → Q s7) →
            wpAny (model X.prog X.w) X.A (do bindName X.env n .none; unbindBehindTheSuite X.env n p2) (fun _ s7 => Q s7) X.xe s6 := fun {τ6 G6 Q} S6 hq => gone_ok (S6.unsuite ok) nd at_ loc hq
        cases fl with
        | ret u => exact let ⟨v6, τ6, G6, S6, r6, q6⟩ := z; goes S6 fun s7 J7 => ⟨_, _, _, J7, r6, q6⟩
        | next => exact let ⟨τ6, G6, S6, q6⟩ := z; goes S6 fun s7 J7 => ⟨_, _, J7, q6⟩
        | brk => exact let ⟨τ6, G6, S6, q6⟩ := z; goes S6 fun s7 J7 => ⟨_, _, J7, q6⟩
        | cont => exact let ⟨τ6, G6, S6, q6⟩ := z; goes S6 fun s7 J7 => ⟨_, _, J7, q6⟩
  exact every hh w
end
/-- o.m(..), what the method raises told by the slots -/
def tMethS (C : Addr) (m : Str) (sp : Sp) (E : L2.St → XK) (ta : TE) (t : TA) : TE := fun τ G Q => ta τ G fun x G1 => ∃ a dx fs, x = .ref a ∧ G1 a = some (.ins C dx fs) ∧ fs.lookup m = none ∧ t τ G1 fun vs G2 => sp (x :: vs) G2 Q (E τ)
section
variable {X : Cx} {CX : CXT} {k : Nat} {f C : Addr} {fd : FuncData} {ps : List Str} {sp : Sp} {E : L2.St → XK} {m : Str} {pos apos : Pos} {e o : Expr} {es : List Expr} {ta : TE} {t : TA}
theorem pe_methS {pl : Sem Bool} (he : PE X o ta) (c : Cls X.K C) (hm : Meth X.K C m f) (F : FnOk X.prog X.w X.K X.mg X.base CX k f fd ps sp) (hr : Room k X.A) (hb : Binds X.K fd ps []) (hx : ∀ τ, PassesAt CX X τ (E τ)) (ha : PA X (e :: es) t)
    (hst : starEach (e :: es) X.env = (false, eval e X.env) :: starEach es X.env := by rfl) (hpl : (backTo pos (starEach es X.env)).any (·.1) = false := by rfl)
    (ht : eval (.Call (.Attribute o m apos) (e :: es) [] pos) X.env = (do
      let ov ← eval o X.env
      standAt apos.atName
      let (f, first) ← holding [ov] (getMethod ov m pl)
      callWith pos f first (backTo pos (starEach (e :: es) X.env)) (backToKw pos (keywordEach [] X.env))) := by rfl) :
    PE X (.Call (.Attribute o m apos) (e :: es) [] pos) (tMethS C m sp E ta t) := by
  refine ⟨fun pins s τ G Q I h => PySem.W.methodCall_KW (pl := pl) (thn (he.run pins s τ G _ I h) fun u s1 ⟨x, G1, I1, rx, a, dx, fs, ex, ea, l, q⟩ => ?_) ht⟩
  subst ex
  obtain rfl : u = Value.ref a := rx
  exact getmeth_ok I1 ea c hm l (PySem.W.callWith_K (first := [.ref a]) (h₀ := X.base) I.ok.mod.kin hm.kp (thn (ha.run pos pins s1 τ G1 _ I1 q) fun us s2 ⟨vs, G2, I2, r, q2⟩ => ⟨I2.kIn, run_fnS (us := .ref a :: us) (vs := .ref a :: vs) F hr hb (hx τ) I2 (.cons rfl r) q2⟩) hst hpl)
end
end FsT

set_option Elab.async false
set_option linter.all false
set_option maxRecDepth 100000
set_option maxHeartbeats 8000000
/-! what laws share: rows, data told by their items, lists of texts -/
namespace Fs
open PySem L2 Evl FsE FsC FsR FsK FsT
theorem takesF0 {X : Cx} : Takes X (fun _ _ _ _ => False) := fun _ _ x => by
  obtain ⟨_, _, _, _, _, _, _, _, _, _, _, _, _, _, _, _, z⟩ := x
  exact z.elim
theorem row_getB {row : List Int} {i : Nat} (hrow : RowOk row) (h : i < row.length) : ∃ v, row[i]? = some v ∧ 0 ≤ v ∧ v < 1000 :=
  ⟨row[i], List.getElem?_eq_getElem h, hrow _ (List.getElem_mem h)⟩
theorem str_at {ns : List Str} {i : Int} (h0 : 0 ≤ i) (h1 : i < (ns.length : Int)) : ∃ z, z ∈ ns ∧ atI (ns.map V.str) i = some (.str z) := by
  obtain ⟨j, rfl⟩ : ∃ j : Nat, i = (j : Int) := ⟨i.toNat, by omega⟩
  have hj : j < ns.length := by omega
  exact ⟨ns[j], List.getElem_mem hj, atI_nat (by rw [List.getElem?_map, List.getElem?_eq_getElem hj]; rfl)⟩
section
variable {σ : L2.St} {H : Hp} {te ta tb tc : TE} {tz : TS} {D : Ends} {K : PySem.W.Frag}
theorem ev_ixI {l : Addr} {xs : List Int} {j : Nat} {v : Int} (ha : Ev ta σ H (.ref l)) (hb : Ev tb σ H (.int (j : Int))) (hl : H l = some (.lst (xs.map V.int))) (hj : xs[j]? = some v) : Ev (tOp (rIxL K) ta tb) σ H (.int v) :=
  ev_op ha hb (rv_ixL (sq_of hl) (atI_nat (by rw [List.getElem?_map, hj]; rfl)))
theorem ev_ixZ {l : Addr} {xs : List Str} {j : Nat} {v : Str} (ha : Ev ta σ H (.ref l)) (hb : Ev tb σ H (.int (j : Int))) (hl : H l = some (.lst (xs.map V.str))) (hj : xs[j]? = some v) : Ev (tOp (rIxL K) ta tb) σ H (.str v) :=
  ev_op ha hb (rv_ixL (sq_of hl) (atI_nat (by rw [List.getElem?_map, hj]; rfl)))
theorem ev_int1 {K : PySem.W.Frag} {i : Int} (h : Ev ta σ H (.int i)) : Ev (tCB (fun xs H Q => (∃ i, xs = [V.int i] ∧ Q (.int i) H) ∨ ∃ k, xs = [V.bl k] ∧ Q (.int (if k then 1 else 0)) H) (tCons ta tNil)) σ H (.int i) := ev_cb (ea_cons h ea_nil) (rc_int (K := K))
/-- data that are told by their items, whatever follows -/
def EvDt (K : PySem.W.Frag) (te : TE) (σ : L2.St) (H : Hp) (d : PyData) : Prop := EvS te σ H fun v H' => ∀ H2, Ex H' H2 → Dp K H2 v d
theorem ev_neDt {d : PyData} (ha : EvDt K ta σ H d) (hb : EvDt K tb σ H d) (hs : SeqAt.shaped d = true) : Ev (tOp (rNeD K) ta tb) σ H (.bl false) := fun H1 e Q q =>
  ha H1 e _ fun x H2 e2 hx => hb H2 (e.trans e2) _ fun y H3 e3 hy => ⟨d, d, hx H3 e3, hy H3 (Ex.refl H3), hs, hs, by rw [SeqAt.eqv_refl d (SeqAt.canLay_of_shaped hs)]; exact q H3 (e2.trans e3)⟩
theorem ev_eqDt {d : PyData} (ha : EvDt K ta σ H d) (hb : EvDt K tb σ H d) (hs : SeqAt.shaped d = true) : Ev (tOp (rEqD K) ta tb) σ H (.bl true) := fun H1 e Q q =>
  ha H1 e _ fun x H2 e2 hx => hb H2 (e.trans e2) _ fun y H3 e3 hy => ⟨d, d, hx H3 e3, hy H3 (Ex.refl H3), hs, hs, by rw [SeqAt.eqv_refl d (SeqAt.canLay_of_shaped hs)]; exact q H3 (e2.trans e3)⟩
theorem edt_v {v : V} {d : PyData} (h : Ev te σ H v) (hd : ∀ H1, Ex H H1 → Dp K H1 v d) : EvDt K te σ H d := fun H1 e Q q => h H1 e _ fun H2 e2 => q v H2 e2 fun H3 e3 => hd H3 ((e.trans e2).trans e3)
theorem edt_two {x y : V} {d1 d2 : PyData} (hx : Ev ta σ H x) (hy : Ev tb σ H y) (h1 : ∀ H1, Dp K H1 x d1) (h2 : ∀ H1, Dp K H1 y d2) : EvDt K (tTup (tCons ta (tCons tb tNil))) σ H (.tuple [d1, d2]) := fun H1 e Q q =>
  hx H1 e _ fun H2 e2 => hy H2 (e.trans e2) _ fun H3 e3 => ⟨by show 2 ≤ sizeLine; decide, fun t ht => q (.ref t) _ ((e2.trans e3).trans (Ex.new ht)) fun H4 e4 => .tup (st_of (e4 _ _ upd_same)) (.cons (h1 H4) (.cons (h2 H4) .nil))⟩
theorem s_retUB {vs : List V} (h : EvU te σ H vs) (k : ∀ t H', H t = none → Ex H H' → H' t = some (.tup vs) → D.rt (.ref t) H') : tRet te D σ H := h H (Ex.refl H) D.rt k
theorem ev_maxLB {i j : Int} (h : EvL te σ H [.int i, .int j]) : Ev (tCB (rMax K) (tCons te tNil)) σ H (.int (max i j)) := fun H1 e Q q =>
  h H1 e _ fun p H2 _ e2 hp => ⟨p, [i, j], rfl, sq_of hp, by show 0 < 2; decide, fun m hm hall => by
    have em : m = max i j := by
      have h1 := hall i (List.mem_cons_self ..)
      have h3 := hall j (List.mem_cons_of_mem _ (List.mem_cons_self ..))
      rcases List.mem_cons.mp hm with rfl | hm
      · omega
      · rw [List.mem_singleton.mp hm] at h1 ⊢
        omega
    rw [em]
    exact q H2 e2⟩
theorem ev_maxB {i j : Int} (ha : Ev ta σ H (.int i)) (hb : Ev tb σ H (.int j)) : Ev (tCB (rMax K) (tCons (tLst (tCons ta (tCons tb tNil))) tNil)) σ H (.int (max i j)) := ev_maxLB (el_lst (ea_cons ha (ea_cons hb ea_nil)) (by show 2 ≤ 100000; decide))
/-- row[b * k + c] -/
theorem ev_rowk {rl : Addr} {row : List Int} {a b : Int} {i n : Nat} {i0 i4 : Nat} {v : Int} (s0 : σ[i0]? = some (some (.ref rl))) (s4 : σ[i4]? = some (some (.int (i : Int)))) (h : H rl = some (.lst (row.map V.int))) (ha : 0 ≤ a ∧ a ≤ 1000) (hn : a * (i : Int) + b = (n : Int)) (hat : row[n]? = some v) :
    Ev (tOp (rIxL K) (tVar i0) (tOp (rI0 fun i j => .int (i + j)) (tOp (rI CMul fun i j => .int (i * j)) (tC (.int a)) (tVar i4)) (tC (.int b)))) σ H (.int v) :=
  ev_op (y := .int (n : Int)) (ev_var s0) (ev_is (ev_op (x := .int (a * (i : Int))) (ev_op ev_c (ev_var s4) (rv_I (.inl ⟨by omega, by omega⟩))) ev_c rv_I0) (by show V.int (a * (i : Int) + b) = _; rw [hn])) (rv_ixL (sq_of h) (atI_nat (by rw [List.getElem?_map, hat]; rfl)))
end
def spLaw (K : PySem.W.Frag) : Sp := fun vs H Q _ => ∃ (a : Addr) (ns : List Int), vs = [.ref a] ∧ SqL K H a (ns.map V.int) ∧ ∀ H', Q (.bl true) H'
end Fs

set_option Elab.async false
set_option linter.all false
set_option maxRecDepth 100000
set_option maxHeartbeats 8000000
/-! arguments, one by one -/
namespace Fs
open PySem L2 Evl FsE FsC FsR FsK FsT
section
variable {σ : L2.St} {H : Hp} {t : TA} {te t1 t2 : TE} {q : List V → Hp → Prop} {D : Ends} {sp : Sp} {F : L2.St → XK} {C : Addr} {g : TG} {tz : TS}
theorem a_var {i : Nat} {x : V} (h : σ[i]? = some (some x)) (k : t σ H fun xs H1 => q (x :: xs) H1) : tCons (tVar i) t σ H q := ⟨x, h, k⟩
theorem a_c {v : V} (k : t σ H fun xs H1 => q (v :: xs) H1) : tCons (tC v) t σ H q := k
theorem a_nil (k : q [] H) : tNil σ H q := k
theorem a_e {v : V} (h : Ev te σ H v) (k : ∀ H1, Ex H H1 → t σ H1 fun xs H2 => q (v :: xs) H2) : tCons te t σ H q := h H (Ex.refl H) _ fun H1 e => k H1 e
theorem a_l {vs : List V} (h : EvL te σ H vs) (k : ∀ l H1, H l = none → Ex H H1 → H1 l = some (.lst vs) → t σ H1 fun xs H2 => q (.ref l :: xs) H2) : tCons te t σ H q := h H (Ex.refl H) _ fun l H1 hl e hl' => k l H1 hl e hl'
theorem a_s {Pv : V → Hp → Prop} (h : EvS te σ H Pv) (k : ∀ v H1, Ex H H1 → Pv v H1 → t σ H1 fun xs H2 => q (v :: xs) H2) : tCons te t σ H q := h H (Ex.refl H) _ fun v H1 e hv => k v H1 e hv
theorem es_st {Pv : V → Hp → Prop} (k : ∀ H1, Ex H H1 → ∀ Q : VK, (∀ v H2, Ex H1 H2 → Pv v H2 → Q v H2) → t σ H1 fun vs H2 => sp vs H2 Q (F σ)) : EvS (tStat C sp F (tC (.ref C)) t) σ H Pv := fun H1 e Q q => ⟨rfl, k H1 e Q q⟩
theorem lst0 : EvL (tLst tNil) σ H [] := el_lst ea_nil (by decide)
theorem s_asgS {i : Nat} {Pv : V → Hp → Prop} (h : EvS te σ H Pv) (k : ∀ v H1, Ex H H1 → Pv v H1 → D.nx (σ.set i (some v)) H1) : tAsg te (gName i) D σ H := h H (Ex.refl H) _ fun v H1 e1 hv => k v H1 e1 hv
end
end Fs

set_option Elab.async false
set_option linter.all false
set_option maxRecDepth 100000
set_option maxHeartbeats 2000000
/-! list(range(n)). -/
namespace FsR
open PySem PySem.Spec PyProof.Rows L2 Evl
def nums (n : Nat) : List V := (List.range n).map fun (i : Nat) => V.int (i : Int)
def tListR (ta : TA) : TE := fun σ H Q => ta σ H fun vs H1 => ∃ n : Int, vs = [.int n] ∧ 0 ≤ n ∧ n ≤ 100000 ∧ ∀ p, H1 p = none → Q (.ref p) (upd H1 p (.lst (nums n.toNat)))
theorem nums_vals : ∀ {n : Nat} {acc : List Value}, acc.length = n → (∀ (j : Nat) (v : Value), acc[j]? = some v → ∃ t, v = Value.int (j : Int) t) → Vals (nums n) acc := by
  intro n
  induction n with
  | zero =>
    intro acc h _
    cases acc with
    | nil => exact Paired.nil
    | cons a b => cases h
  | succ n ih =>
    intro acc h hv
    obtain ⟨as, a, rfl⟩ : ∃ as a, acc = as ++ [a] := by
      rcases List.eq_nil_or_concat acc with e | ⟨as, a, e⟩
      · rw [e] at h; cases h
      · exact ⟨as, a, by rw [e, List.concat_eq_append]⟩
    have hl : as.length = n := by
      rw [List.length_append] at h
      exact Nat.succ.inj h
    have e1 : nums (n + 1) = nums n ++ [.int (n : Int)] := by
      unfold nums
      rw [List.range_succ, List.map_append]
      rfl
    rw [e1]
    refine Vals.append (ih hl fun j v hj => hv j v ?_) (.cons ?_ Paired.nil)
    · rw [List.getElem?_append_left (List.getElem?_eq_some_iff.mp hj).1]
      exact hj
    · obtain ⟨t, ht⟩ := hv n a (by rw [List.getElem?_append_right (by omega), hl, Nat.sub_self]; rfl)
      exact ⟨t, ht⟩
theorem pe_listR {X : Cx} {e : Expr} {ta : TA} {p1 p2 pos cpos : Pos} (hc : X.calm = true) (he : PA X [e] ta) (hg : Gl X "list") (hm : X.mg "list" = none) (hv : bootBuiltins "list" = some (.type "list")) (hg2 : Gl X "range") (hm2 : X.mg "range" = none)
    (hs : starEach [.Call (.Name "range" p2) [e] [] cpos] X.env = (false, eval (.Call (.Name "range" p2) [e] [] cpos) X.env) :: starEach [] X.env := by rfl) (hs2 : starEach [e] X.env = [(false, eval e X.env)] := by rfl) :
    PE X (.Call (.Name "list" p1) [.Call (.Name "range" p2) [e] [] cpos] [] pos) (tListR ta) := by
  refine ⟨fun pins s σ H Q I h => ?_⟩
  refine wpAny_Call_Name_kw (ld_blt I hg hm hv ?_)
  refine PyProof.Rows.callWith_type1 ?_ hs rfl
  rw [hs]
  show wpAny _ _ (spliced ((false, eval (.Call (.Name "range" p2) [e] [] cpos) X.env) :: backTo pos (starEach [] X.env))) _ _ s
  refine Calls.spliced_cons ?_
  refine Call_ (ld_blt I hg2 hm2 boot_range (PyProof.Rows.callWith_type1 (thn (he.run cpos pins s σ H _ I h) fun us s1 ⟨vs, H1, I1, r1, n, e1, z0, z1, q⟩ => ?_) hs2 rfl))
  subst e1
  cases r1 with
  | cons r rr =>
    cases rr
    obtain ⟨t, rfl⟩ := r
    refine call_range_1 ?_
    have I2 : Inv X pins σ H1 { s1 with heap := s1.heap.push { cls := .type "range", data := .fields #[.int 0 s1.toks, .int n t, .int 1 (s1.toks + 1)] }, toks := s1.toks + 1 + 1 } := I1.kept fun b o e => Heap.get?_push_of_some _ e
    refine Calls.spliced_nil ?_
    obtain ⟨m, rfl⟩ : ∃ m : Nat, n = (m : Int) := ⟨n.toNat, by omega⟩
    refine call_list_range (n := m) (I2.ok.hd hc) (IsRange.new ..) (small_one (by decide) (by decide) (by omega) (by omega)) (by rw [rangeSize_one]; split <;> omega) (by omega) (fun h' tk acc c' kp e ⟨hz, hi⟩ => ?_)
    have hv : Vals (nums m) acc.toList := nums_vals (by rw [Array.length_toList]; exact hz) fun j v hj => by
      rw [Array.getElem?_toList] at hj
      obtain ⟨t, ht⟩ := hi j v hj
      exact ⟨t, by rw [ht]; simp⟩
    have hzl : (nums m).length ≤ sizeLine := by
      unfold nums
      rw [List.length_map, List.length_range]
      exact sz_of (by omega)
    refine ⟨.ref _, _, I2.laid (t' := tk) kp (Nat.le_refl _) (show ObjOk X.prog X.w _ h' _ (.lst (nums m)) from ⟨hzl, acc.toList, c', hv, by rw [Array.toArray_toList]; exact e⟩), rfl, q _ (I2.hok.fresh (Nat.le_refl _))⟩
theorem el_listR {σ : L2.St} {H : Hp} {ta : TA} {n : Nat} (h : EvA ta σ H [.int (n : Int)]) (hn : n ≤ 100000) : EvL (tListR ta) σ H (nums n) := fun H1 e Q q => h H1 e _ fun H2 e2 => ⟨(n : Int), rfl, by omega, by omega, fun p hp => q p _ (fresh_back e2 hp) (e2.trans (Ex.new hp)) upd_same⟩
/-- xs + ys, both lists -/
theorem el_cat {σ : L2.St} {H : Hp} {ta tb : TE} {xs ys : List V} (ha : EvL ta σ H xs) (hb : EvL tb σ H ys) (hz : xs.length + ys.length ≤ 100000) : EvL (tOp rCat ta tb) σ H (xs ++ ys) := fun H1 e Q q =>
  ha H1 e _ fun p H2 hp e2 h2 => hb H2 (e.trans e2) _ fun r H3 hr e3 h3 => ⟨p, r, xs, ys, rfl, rfl, e3 _ _ h2, h3, sz_of (by omega), fun u hu => q u _ (fresh_back (e2.trans e3) hu) ((e2.trans e3).trans (Ex.new hu)) upd_same⟩
end FsR

set_option Elab.async false
set_option linter.all false
set_option maxRecDepth 100000
set_option maxHeartbeats 8000000
/-! the offers with one part changed -/
namespace Fs
open PySem L2 Evl FsE FsC FsR FsT FsK FsQ
section
variable {σ : L2.St} {H H0 : Hp} {t : TA} {te : TE} {D : Ends} {tz : TS} {K : PySem.W.Frag} {X : Addr → Prop} {l : Addr} {xs : List V} {f : OfF} {Pv : V → Hp → Prop} {i : Nat}
theorem es_tupK (k : ∀ H1, Ex H H1 → ∀ Q : VK, (∀ v H2, Ex H1 H2 → Pv v H2 → Q v H2) → t σ H1 fun vs H2 => vs.length ≤ sizeLine ∧ ∀ p, H2 p = none → Q (.ref p) (upd H2 p (.tup vs))) : EvS (tTup t) σ H Pv := fun H1 e Q q => k H1 e Q q
/-- what is told of the list that grows -/
structure Grow (X : Addr → Prop) (l : Addr) (H0 H : Hp) (xs : List V) (f : OfF) : Prop where
  ex : Ex H0 H
  at_ : H l = some (.lst xs)
  ch : ChF (plus X l) H xs f
theorem Grow.to {H' : Hp} (g : Grow X l H0 H xs f) (e : Ex H H') : Grow X l H0 H' xs f := ⟨g.ex.trans e, e _ _ g.at_, g.ch.to (Ex.hid e)⟩
theorem Grow.put (g : Grow X l H0 H xs f) (h0 : H0 l = none) {v : V} (hv : ∃ y, FrAt (hid (plus X l) H) v y ∧ FGd f y) : Grow X l H0 (upd H l (.lst (xs ++ [v]))) (xs ++ [v]) f := ⟨Ex.mut g.ex h0, upd_same, (g.ch.snoc hv).to ex_updp⟩
theorem s_appG (g : Grow X l H0 H xs f) (h0 : H0 l = none) (s : σ[i]? = some (some (.ref l))) (h : EvS te σ H (fun v H' => ∃ y, FrAt (hid (plus X l) H') v y ∧ FGd f y)) (hz : xs.length < 100000) (k : ∀ v H', Grow X l H0 H' (xs ++ [v]) f → D.nx σ H') : tDrop (tBM K "list" rAppend (tVar i) (tCons te tNil)) D σ H :=
  s_appS g.at_ (ev_var s) h hz fun v H1 e1 hv => k v _ ((g.to e1).put h0 hv)
theorem q_appG (g : Grow X l H0 H xs f) (h0 : H0 l = none) (s : σ[i]? = some (some (.ref l))) (h : EvS te σ H (fun v H' => ∃ y, FrAt (hid (plus X l) H') v y ∧ FGd f y)) (hz : xs.length < 100000) (k : ∀ v H', Grow X l H0 H' (xs ++ [v]) f → tz D σ H') : tSeq (tDrop (tBM K "list" rAppend (tVar i) (tCons te tNil))) tz D σ H :=
  s_appG (D := { D with nx := tz D }) g h0 s h hz k
theorem q_lst1 (h : EvS te σ H Pv) (k : ∀ v H1, Ex H H1 → Pv v H1 → ∀ l, H1 l = none → tz D (σ.set i (some (.ref l))) (upd H1 l (.lst [v]))) : tSeq (tAsg (tLst (tCons te tNil)) (gName i)) tz D σ H := h H (Ex.refl H) _ fun v H1 e hv => ⟨by show 1 ≤ sizeLine; decide, fun l hl => k v H1 e hv l hl⟩
theorem fr_new {c : Str} {s m : Int} {op : Opd} {ns : List Str} {r : Pr} {u b p : Addr} (hX : Hid X H) (hp : H p = none) (hu : hid X H u = some (.lst (ns.map V.str))) (hb : TrAt (hid X H) b r) : FrAt (hid X (upd H p (.tup [.str c, .int s, .int m, op.v, .ref u, .ref b]))) (.ref p) (rowOf c s m op ns r) :=
  ⟨p, u, b, rfl, hid_in (hX.new hp) upd_same, (Ex.hid (Ex.new hp)) _ _ hu, hb.ex (Ex.hid (Ex.new hp))⟩
theorem es_row {t1 t2 t3 t4 t5 t6 : TE} {c : Str} {s m : Int} {op : Opd} {ns : List Str} {r : Pr} {b : Addr} (h1 : Ev t1 σ H (.str c)) (h2 : Ev t2 σ H (.int s)) (h3 : Ev t3 σ H (.int m)) (h4 : Ev t4 σ H op.v) (h5 : EvS t5 σ H (fun v H' => ∃ u, v = .ref u ∧ hid X H' u = some (.lst (ns.map V.str)))) (h6 : Ev t6 σ H (.ref b)) (hX : Hid X H) (hb : TrAt (hid X H) b r) (hg : FGd f (rowOf c s m op ns r)) :
    EvS (tTup (tCons t1 (tCons t2 (tCons t3 (tCons t4 (tCons t5 (tCons t6 tNil))))))) σ H (fun v H' => ∃ y, FrAt (hid X H') v y ∧ FGd f y) := fun H0 e0 Q q =>
  h1 H0 e0 _ fun H1 e1 => h2 H1 (e0.trans e1) _ fun H2 e2 => h3 H2 ((e0.trans e1).trans e2) _ fun H3 e3 => h4 H3 (((e0.trans e1).trans e2).trans e3) _ fun H4 e4 => h5 H4 ((((e0.trans e1).trans e2).trans e3).trans e4) _ fun v H5 e5 ⟨u, hv, hu⟩ => by
    subst hv
    exact h6 H5 (((((e0.trans e1).trans e2).trans e3).trans e4).trans e5) _ fun H6 e6 => ⟨by show 6 ≤ sizeLine; decide, fun p hp => by
      have x6 := (((((e0.trans e1).trans e2).trans e3).trans e4).trans e5).trans e6
      exact q (.ref p) _ (((((e1.trans e2).trans e3).trans e4).trans (e5.trans e6)).trans (Ex.new hp)) ⟨_, fr_new (hX.ex x6) hp ((Ex.hid e6) _ _ hu) (hb.ex (Ex.hid x6)), hg⟩⟩
theorem es_ns {ns : List Str} {u : Addr} (s : σ[i]? = some (some (.ref u))) (hu : hid X H u = some (.lst (ns.map V.str))) : EvS (tVar i) σ H (fun v H' => ∃ u, v = .ref u ∧ hid X H' u = some (.lst (ns.map V.str))) := fun H1 e Q q => ⟨_, s, q _ H1 (Ex.refl H1) ⟨u, rfl, (Ex.hid e) _ _ hu⟩⟩
theorem el_hid {ns : List Str} (hX : Hid X H) (h : EvL te σ H (ns.map V.str)) : EvS te σ H (fun v H' => ∃ u, v = .ref u ∧ hid X H' u = some (.lst (ns.map V.str))) := fun H1 e Q q => h H1 e _ fun u H2 hu e2 h2 => q _ H2 e2 ⟨u, rfl, hid_in ((hX.ex e).new hu) h2⟩
theorem q_unp6 {ta : TE} {a : Addr} {x1 x2 x3 x4 x5 x6 : V} {i1 i2 i3 i4 i5 i6 : Nat} (h : Ev ta σ H (.ref a)) (hx : H a = some (.tup [x1, x2, x3, x4, x5, x6])) (σ' : L2.St)
    (hσ : (((((σ.set i1 (some x1)).set i2 (some x2)).set i3 (some x3)).set i4 (some x4)).set i5 (some x5)).set i6 (some x6) = σ') (k : ∀ H1, Ex H H1 → tz D σ' H1) : tSeq (tAsg ta (gTup K 6 (gCons (gName i1) (gCons (gName i2) (gCons (gName i3) (gCons (gName i4) (gCons (gName i5) (gCons (gName i6) gNil)))))))) tz D σ H := by
  subst hσ
  exact h H (Ex.refl H) _ fun H1 e1 => ⟨a, _, rfl, st_of (e1 _ _ hx), rfl, _, _, rfl, _, _, rfl, _, _, rfl, _, _, rfl, _, _, rfl, _, _, rfl, rfl, k H1 e1⟩
theorem cut_takeB {xs : List V} {k : Nat} : cutV xs none (some (k : Int)) = xs.take k := by
  unfold cutV
  rw [HT.sIx_nat]
  show (xs.drop 0).take (min k xs.length - 0) = _
  rw [List.drop_zero, Nat.sub_zero]
  by_cases h : k ≤ xs.length
  · rw [Nat.min_eq_left h]
  · rw [Nat.min_eq_right (by omega), List.take_of_length_le (Nat.le_refl _), List.take_of_length_le (by omega)]
theorem cut_dropB {xs : List V} {k : Nat} : cutV xs (some (k : Int)) none = xs.drop k := by
  unfold cutV
  rw [HT.sIx_nat]
  show (xs.drop (min k xs.length)).take (xs.length - min k xs.length) = _
  by_cases h : k ≤ xs.length
  · rw [Nat.min_eq_left h, List.take_of_length_le (by rw [List.length_drop]; omega)]
  · rw [Nat.min_eq_right (by omega), List.drop_of_length_le (Nat.le_refl _), List.drop_of_length_le (by omega), List.take_nil]
end
section
variable {P : Program} {w : World} {K : PySem.W.Frag} {mg : Str → Option Value} {base : Heap} {C CB : Addr}
def spChg (d : Nat) : Sp := fun vs H Q _ => ∃ (X : Addr → Prop) (a : Addr) (p : Pr), vs = [.ref a] ∧ Hid X H ∧ TrAt (hid X H) a p ∧ AlP p ∧ p.depth ≤ (d : Int) ∧ p.size ≤ 400 ∧ p.depth ≤ 20 ∧ ∀ l xs H', H l = none → Ex H H' → H' l = some (.lst xs) → ChT (plus X l) H' xs p → (xs.length : Int) ≤ 20 * p.size → Q (.ref l) H'
def spOfC (d : Nat) : Sp := fun vs H Q _ => ∃ (X : Addr → Prop) (o : Addr) (c : Str) (s m : Int) (op : Opd) (ns : List Str) (r : Pr), vs = [.ref o] ∧ Hid X H ∧ FrAt (hid X H) (.ref o) (rowOf c s m op ns r) ∧ OfOk c s m op ns ∧ AlP r ∧ r.depth ≤ (d : Int) ∧ r.size ≤ 400 ∧ r.depth ≤ 20 ∧ ∀ l xs H', H l = none → Ex H H' → H' l = some (.lst xs) → ChF (plus X l) H' xs (rowOf c s m op ns r) → (xs.length : Int) ≤ 7 + 20 * r.size → Q (.ref l) H'
abbrev nsOfC : List Str := ["_law_offer_here", "_law_channel", "_law_seat", "_law_seats", "_law_operand_here", "_law_names", "_law_rest", "_law_found", "_law_k", "_law_others", "_law_one"]
theorem scOfC : FnScope nsOfC ["_law_offer_here"] (defScope (topS 42)) := ⟨rfl, rfl, rfl, by decide +kernel, rfl, by decide +kernel, by decide +kernel⟩
theorem ok_ofC {f : Addr} {fd : FuncData} {k d : Nat} (hk : 2 ≤ k) (F : Fun K "_law_offers_changed" "_law_offers_changed" (topS 42) f fd) (L : LawT K mg) (GW : CalX P w K mg base CX0 1 "_law_word_changed" spWdC) (GO : CalX P w K mg base CX0 2 "_law_operand_changed" spOpC) (GC : CalX P w K mg base CX0 k "_law_changed" (spChg d)) :
    FnOk P w K mg base CX0 (k + 1) f fd ["_law_offer_here"] (spOfC d) := by
  refine F.ok scOfC (fun vs H Q E h => ?_) (fun cdv A outer s' H vs Q E hr h => ?_)
  · obtain ⟨X, o, c, s, m, op, ns, r, rfl, _⟩ := h
    rfl
  · obtain ⟨X, o, c, s, m, op, ns, r, rfl, hX, hf, ok, hal, hdep, hsiz, h20, q⟩ := h
    refine ⟨_, pss_cons (ps_asg (pv 0) (pg_tup rfl (pgs_cons (pg_name (i := 1) scOfC.nd rfl (.inl rfl)) (pgs_cons (pg_name (i := 2) scOfC.nd rfl (.inl rfl)) (pgs_cons (pg_name (i := 3) scOfC.nd rfl (.inl rfl)) (pgs_cons (pg_name (i := 4) scOfC.nd rfl (.inl rfl)) (pgs_cons (pg_name (i := 5) scOfC.nd rfl (.inl rfl)) (pgs_cons (pg_name (i := 6) scOfC.nd rfl (.inl rfl)) pgs_nil))))))))
      (pss_cons (ps_set (i := 7) scOfC.nd rfl (Or.inl rfl) (pe_lst (pa_cons (pe_tup (pa_cons (pe_cx (E := fun _ => E0) GW hr (by omega) (by rfl) at0 (pa_cons (pv 1) pa_nil)) (pa_cons (pv 2) (pa_cons (pv 3) (pa_cons (pv 4) (pa_cons (pv 5) (pa_cons (pv 6) pa_nil))))))) pa_nil)))
      (pss_cons (ps_expr (pe_bm PySem.F.plainAttrs_list PySem.F.slot_list_append PySem.F.type_list_append mt_append (pv 7) (pa_cons (pe_tup (pa_cons (pv 1) (pa_cons (pv 2) (pa_cons (pv 3) (pa_cons (pe_cx (E := fun _ => E0) GO hr (by omega) (by rfl) at0 (pa_cons (pv 4) pa_nil)) (pa_cons (pv 5) (pa_cons (pv 6) pa_nil))))))) pa_nil)))
      (pss_cut (ps_if (pt_cmpR op_gt (pv 3) pe_int (nomark _)) (pss_one (ps_expr (pe_bm PySem.F.plainAttrs_list PySem.F.slot_list_append PySem.F.type_list_append mt_append (pv 7) (pa_cons (pe_tup (pa_cons (pv 1) (pa_cons (pe_op op_mod (pe_callTy call_int1 (by rfl) L.int (by decide +kernel) (pa_cons (pe_op op_add (pv 2) pe_int) pa_nil)) (pv 3)) (pa_cons (pv 3) (pa_cons (pv 4) (pa_cons (pv 5) (pa_cons (pv 6) pa_nil))))))) pa_nil)))) pss_nil)
      (pss_cons (ps_for PassesOwn.never rfl (pi_range1 rfl L.range (pa_cons (pe_callB call_len_seq (by rfl) L.len PySem.boot_len (pa_cons (pv 5) pa_nil)) pa_nil)) (pg_name (i := 8) scOfC.nd rfl (Or.inl rfl))
        (pss_cons (ps_set (i := 9) scOfC.nd rfl (Or.inl rfl) (pe_op op_cat (pe_op op_cat (pe_slice sl_list (pv 5) po_none (po_some (pv 8))) (pe_lst (pa_cons (pe_cx (E := fun _ => E0) GW hr (by omega) (by rfl) at0 (pa_cons (pe_ix ix_list (pv 5) (pv 8) (fun _ _ => rfl)) pa_nil)) pa_nil))) (pe_slice sl_list (pv 5) (po_some (pe_op op_add (pv 8) pe_int)) po_none)))
        (pss_one (ps_expr (pe_bm PySem.F.plainAttrs_list PySem.F.slot_list_append PySem.F.type_list_append mt_append (pv 7) (pa_cons (pe_tup (pa_cons (pv 1) (pa_cons (pv 2) (pa_cons (pv 3) (pa_cons (pv 4) (pa_cons (pv 9) (pa_cons (pv 6) pa_nil))))))) pa_nil))))))
      (pss_cut (ps_if (pt_cmpR op_lt (pv 3) pe_int (nomark _)) (pss_one (ps_expr (pe_bm PySem.F.plainAttrs_list PySem.F.slot_list_append PySem.F.type_list_append mt_append (pv 7) (pa_cons (pe_tup (pa_cons (pv 1) (pa_cons (pv 2) (pa_cons (pe_op op_add (pv 3) pe_int) (pa_cons (pv 4) (pa_cons (pe_op op_cat (pv 5) (pe_lst (pa_cons pe_str pa_nil))) (pa_cons (pv 6) pa_nil))))))) pa_nil)))) pss_nil)
      (pss_cons (ps_for PassesOwn.never rfl (pi_list (pe_cx (E := fun _ => E0) GC hr (Nat.le_refl _) (by rfl) at0 (pa_cons (pv 6) pa_nil))) (pg_name (i := 10) scOfC.nd rfl (Or.inl rfl))
        (pss_one (ps_expr (pe_bm PySem.F.plainAttrs_list PySem.F.slot_list_append PySem.F.type_list_append mt_append (pv 7) (pa_cons (pe_tup (pa_cons (pv 1) (pa_cons (pv 2) (pa_cons (pv 3) (pa_cons (pv 4) (pa_cons (pv 5) (pa_cons (pv 10) pa_nil))))))) pa_nil)))))
      (pss_one (ps_ret (pv 7))))))))), ?_⟩
    obtain ⟨oo, u, b, ho, h1, h2, h3⟩ := hf
    have ho' : o = oo := V.ref.inj ho
    subst ho'
    have h1' : H o = some (.tup [.str c, .int s, .int m, op.v, .ref u, .ref b]) := (hid_out h1).2
    have h2' : H u = some (.lst (ns.map V.str)) := (hid_out h2).2
    have hnl : ns.length ≤ 3 := by
      have := ok.nl
      have := ok.m4
      omega
    obtain ⟨nn1, nn2⟩ := names_all ok.nd
    refine q_unp6 (ev_var rfl) h1' [some (.ref o), some (.str c), some (.int s), some (.int m), some op.v, some (.ref u), some (.ref b), none, none, none, none] rfl (fun H1 e1 => ?_)
    refine q_lst1 (Pv := fun v H' => ∃ y, FrAt (hid X H') v y ∧ FGd (rowOf c s m op ns r) y) (es_row (c := chW c) (op := op) (ev_cx (ea_cons (ev_var rfl) ea_nil) (fun H4 e4 Q4 q4 E4 => ⟨c, rfl, ok.ch.nm, ok.ch.len, q4⟩)) (ev_var rfl) (ev_var rfl) (ev_var rfl) (es_ns rfl ((Ex.hid e1) _ _ h2)) (ev_var rfl) (hX.ex e1) (h3.ex (Ex.hid e1)) (fg_ch ok hal)) (fun v1 H2 e2 ⟨y, hy, hg⟩ l hl => ?_)
    have h0 : H l = none := fresh_back (e1.trans e2) hl
    have g1 : Grow X l H (upd H2 l (.lst [v1])) [v1] (rowOf c s m op ns r) := ⟨(e1.trans e2).trans (Ex.new hl), upd_same, fun v hv => by
      rw [List.mem_singleton.mp hv]
      exact ⟨y, hy.ex (ex_newp hl (Ex.new hl)), hg⟩⟩
    generalize upd H2 l (.lst [v1]) = H3 at g1
    have hY : ∀ {H' : Hp} {xs : List V}, Grow X l H H' xs (rowOf c s m op ns r) → Hid (plus X l) H' := fun g => (hX.ex g.ex).plus g.at_
    have hb : ∀ {H' : Hp} {xs : List V}, Grow X l H H' xs (rowOf c s m op ns r) → TrAt (hid (plus X l) H') b r := fun g => h3.ex (ex_newp h0 g.ex)
    have hu : ∀ {H' : Hp} {xs : List V}, Grow X l H H' xs (rowOf c s m op ns r) → hid (plus X l) H' u = some (.lst (ns.map V.str)) := fun g => (ex_newp h0 g.ex) _ _ h2
    refine q_appG g1 h0 rfl (es_row (op := chO op) (ev_var rfl) (ev_var rfl) (ev_var rfl) (ev_cx (ea_cons (ev_var rfl) ea_nil) (fun H4 e4 Q4 q4 E4 => ⟨op, rfl, ok.op, q4⟩)) (es_ns rfl (hu g1)) (ev_var rfl) (hY g1) (hb g1) (fg_op ok hal)) (by show 1 < 100000; decide) (fun v2 H4 g2 => ?_)
    refine q_cut (M := fun σ' H' => ∃ xs, σ' = [some (.ref o), some (.str c), some (.int s), some (.int m), some op.v, some (.ref u), some (.ref b), some (.ref l), none, none, none] ∧ Grow X l H H' xs (rowOf c s m op ns r) ∧ xs.length ≤ 3) ?_ (fun σ5 H5 ⟨xs5, hσ5, g5, l5⟩ => ?_)
    · refine s_when (b := decide (1 < m)) (et_test (ev_op (x := .int m) (ev_var rfl) ev_c rv_I0)) (fun hb1 H5 e5 => ?_) (fun hb1 H5 e5 => ⟨_, rfl, g2.to e5, by show 2 ≤ 3; decide⟩)
      have g3 := g2.to e5
      exact s_appG g3 h0 rfl (es_row (op := op) (ev_var rfl) (ev_op (x := .int (s + 1)) (y := .int m) (ev_cb (ea_cons (ev_op (x := .int s) (ev_var rfl) ev_c rv_I0) ea_nil) (rc_int (K := K))) (ev_var rfl) (rv_I (by have := of_decide_eq_true hb1; show 0 < m; omega))) (ev_var rfl) (ev_var rfl) (es_ns rfl (hu g3)) (ev_var rfl) (hY g3) (hb g3) (fg_st ok hal (of_decide_eq_true hb1))) (by show 2 < 100000; decide) (fun v H6 g6 => ⟨_, rfl, g6, by show 3 ≤ 3; decide⟩)
    subst hσ5
    refine q_forR1 (n := (ns.length : Int)) (ea_cons (ev_is (ev_cb (ea_cons (ev_var rfl) ea_nil) (fun H6 e6 Q' q' => ⟨u, _, rfl, .inl (sq_of ((g5.ex.trans e6) _ _ h2')), q' H6 (Ex.refl H6)⟩)) (by rw [List.length_map])) ea_nil) (by omega)
      (fun i σ' H' => ∃ (xs : List V) (v8 v9 : Option V), σ' = [some (.ref o), some (.str c), some (.int s), some (.int m), some op.v, some (.ref u), some (.ref b), some (.ref l), v8, v9, none] ∧ Grow X l H H' xs (rowOf c s m op ns r) ∧ xs.length ≤ 3 + i)
      (fun H6 e6 => ⟨xs5, _, _, rfl, g5.to e6, by omega⟩) (fun i σ' H' hi ⟨xs, v8, v9, hσ, g, lx⟩ => ?_) (fun σ' H' ⟨xs, v8, v9, hσ, g, lx⟩ => ?_)
    · subst hσ
      have hi' : i < ns.length := by omega
      have hz : ns[i]? = some ns[i] := List.getElem?_eq_getElem hi'
      generalize ns[i] = z at hz
      have hzm := List.mem_of_getElem? hz
      have hul := g.ex _ _ h2'
      have eL : cutV (ns.map V.str) none (some (i : Int)) ++ [.str (chW z)] ++ cutV (ns.map V.str) (some ((i + 1 : Nat) : Int)) none = (ns.take i ++ [chW z] ++ ns.drop (i + 1)).map V.str := by
        rw [cut_takeB, cut_dropB, List.map_append, List.map_append, List.map_take, List.map_drop]
        rfl
      have sl1 : (cutV (ns.map V.str) none (some (i : Int))).length ≤ 3 := by
        rw [cut_takeB, List.length_take, List.length_map]
        omega
      have sl2 : (cutV (ns.map V.str) (some ((i + 1 : Nat) : Int)) none).length ≤ 3 := by
        rw [cut_dropB, List.length_drop, List.length_map]
        omega
      refine q_asgL (xs := (ns.take i ++ [chW z] ++ ns.drop (i + 1)).map V.str) (by
        rw [← eL]
        exact el_cat (el_cat (el_sl (K := K) (ev_var rfl) eo_none (eo_some (ev_var rfl)) (sq_of hul)) (el_lst (ea_cons (ev_cx (ea_cons (ev_ixZ (K := K) (j := i) (ev_var rfl) (ev_var rfl) hul hz) ea_nil) (fun H4 e4 Q4 q4 E4 => ⟨z, rfl, nn1 z hzm, by have := (ok.nz z hzm).1; omega, q4⟩)) ea_nil) (by show 1 ≤ 100000; decide)) (by show _ + 1 ≤ 100000; omega)) (el_sl (K := K) (ev_var rfl) (eo_some (ev_is (ev_op (x := .int (i : Int)) (ev_var rfl) ev_c rv_I0) (congrArg V.int (show (i : Int) + 1 = ((i + 1 : Nat) : Int) by omega)))) eo_none (sq_of hul)) (by rw [List.length_append]; show _ + 1 + _ ≤ 100000; omega)) (fun ul H6 hul6 e6 h6 => ?_)
      have g6 := g.to e6
      exact s_appG g6 h0 rfl (es_row (op := op) (ev_var rfl) (ev_var rfl) (ev_var rfl) (ev_var rfl) (es_ns rfl (hid_in ((hY g).new hul6) h6)) (ev_var rfl) (hY g6) (hb g6) (fg_nm ok hal hz)) (by omega) (fun v H7 g7 => ⟨_, _, _, rfl, g7, by rw [List.length_append]; show xs.length + 1 ≤ 3 + (i + 1); omega⟩)
    subst hσ
    have lx6 : xs.length ≤ 6 := by
      have : ((ns.length : Int)).toNat = ns.length := by omega
      omega
    refine q_cut (M := fun σ' H' => ∃ xs, σ' = [some (.ref o), some (.str c), some (.int s), some (.int m), some op.v, some (.ref u), some (.ref b), some (.ref l), v8, v9, none] ∧ Grow X l H H' xs (rowOf c s m op ns r) ∧ xs.length ≤ 7) ?_ (fun σ7 H7 ⟨xs7, hσ7, g7, l7⟩ => ?_)
    · refine s_when (b := decide (m < 4)) (et_test (ev_op (x := .int m) (ev_var rfl) ev_c rv_I0)) (fun hb1 H7 e7 => ?_) (fun hb1 H7 e7 => ⟨_, rfl, g.to e7, by omega⟩)
      have g3 := g.to e7
      have hul := g3.ex _ _ h2'
      exact s_appG g3 h0 rfl (es_row (op := op) (ns := ns ++ [("zz8" : Str)]) (ev_var rfl) (ev_var rfl) (ev_op (x := .int m) (ev_var rfl) ev_c rv_I0) (ev_var rfl) (el_hid (hY g3) (by
        rw [List.map_append]
        exact fun H8 e8 Q8 q8 => ⟨_, rfl, el_lst (vs := [.str "zz8"]) (ea_cons ev_c ea_nil) (by show 1 ≤ 100000; decide) H8 (Ex.refl H8) _ fun l2 H9 hl2 e9 h9 => ⟨u, l2, ns.map V.str, [.str "zz8"], rfl, rfl, (e8.trans e9) _ _ hul, h9, sz_of (by rw [List.length_map]; show ns.length + 1 ≤ 100000; omega), fun r9 hr9 => q8 r9 _ (fresh_back e9 hr9) (e9.trans (Ex.new hr9)) upd_same⟩⟩)) (ev_var rfl) (hY g3) (hb g3) (fg_mr ok hal (of_decide_eq_true hb1))) (by omega) (fun v H8 g8 => ⟨_, rfl, g8, by rw [List.length_append]; show xs.length + 1 ≤ 7; omega⟩)
    subst hσ7
    refine ⟨_, rfl, plus X l, b, r, rfl, hY g7, hb g7, hal, hdep, hsiz, h20, fun l2 ys H8 hl2 e8 h8 hch hlen => ?_⟩
    have g8 := g7.to e8
    have n2 : l2 ≠ l := (ne_of_none g7.at_ hl2).symm
    have lys : ys.length ≤ 8000 := by omega
    have key : tSeq (tFor (iList K (tC (.ref l2))) (gName 10) (tDrop (tBM K "list" rAppend (tVar 7) (tCons (tTup (tCons (tVar 1) (tCons (tVar 2) (tCons (tVar 3) (tCons (tVar 4) (tCons (tVar 5) (tCons (tVar 10) tNil))))))) tNil)))) (tRet (tVar 7)) { nx := fun _ H' => Q .non H', rt := Q } [some (.ref o), some (.str c), some (.int s), some (.int m), some op.v, some (.ref u), some (.ref b), some (.ref l), v8, v9, none] H8 := by
      refine q_forLn (K := K) (xs := ys) ev_c (sq_of h8) (fun i σ' H' => ∃ (xs : List V) (v10 : Option V), σ' = [some (.ref o), some (.str c), some (.int s), some (.int m), some op.v, some (.ref u), some (.ref b), some (.ref l), v8, v9, v10] ∧ Grow X l H H' xs (rowOf c s m op ns r) ∧ xs.length ≤ 7 + i ∧ H' l2 = some (.lst ys) ∧ Ex (hid (plus X l) H8) (hid (plus X l) H'))
        (fun H9 e9 => ⟨xs7, _, rfl, g8.to e9, by omega, e9 _ _ h8, Ex.hid e9⟩) (fun i σ' H' _ ⟨_, _, _, _, _, h, _⟩ => sq_of h) (fun i v σ' H' hv ⟨xs, v10, hσ, g, lx, hl2', ex'⟩ => ?_) (fun σ' H' ⟨xs, v10, hσ, g, lx, hl2', ex'⟩ => ?_)
      · subst hσ
        obtain ⟨a', q', rfl, t', gd'⟩ := hch v (List.mem_of_getElem? hv)
        have hi := (List.getElem?_eq_some_iff.mp hv).1
        have t2 : TrAt (hid (plus X l) H') a' q' := (t'.ex ex_plus).ex ex'
        refine s_appS g.at_ (ev_var rfl) (es_row (op := op) (ev_var rfl) (ev_var rfl) (ev_var rfl) (ev_var rfl) (es_ns rfl (hu g)) (ev_var rfl) (hY g) t2 (fg_rs ok gd')) (by omega) (fun v H9 e9 hv9 => ?_)
        have g9 := (g.to e9).put h0 hv9
        refine ⟨_, _, rfl, g9, by rw [List.length_append]; show xs.length + 1 ≤ 7 + (i + 1); omega, by rw [upd_ne n2]; exact e9 _ _ hl2', fun a o' ha => ex_updp _ _ ((Ex.hid e9) _ _ (ex' _ _ ha))⟩
      · subst hσ
        refine s_ret (ev_var rfl) (fun H9 e9 => ?_)
        have g9 := g.to e9
        exact q l xs H9 h0 g9.ex g9.at_ g9.ch (by omega)
    exact key
end
end Fs

set_option Elab.async false
set_option linter.all false
set_option maxRecDepth 100000
set_option maxHeartbeats 2000000
/-! xs != [], xs == []. -/
namespace FsR
open PySem PySem.Spec PyProof.Rows L2 Evl
def rNeNil (K : PySem.W.Frag) : R2 := fun x y H Q => ∃ (a b : Addr) (xs : List V), x = .ref a ∧ y = .ref b ∧ SqL K H a xs ∧ SqL K H b [] ∧ Q (.bl (!xs.isEmpty)) H
theorem op_neNil {X : Cx} (hu : X.A.units < cLine) : OpR X (compareOp .NotEq) (rNeNil X.K) := by
  intro pins s σ H x y v u Q I rx ry h
  obtain ⟨a, b, xs, rfl, rfl, ha, hb, q⟩ := h
  obtain rfl : v = Value.ref a := rx
  obtain rfl : u = Value.ref b := ry
  obtain ⟨us, r1, p1, _⟩ := I.list ha
  obtain ⟨ws, r2, p2, _⟩ := I.list hb
  have hws : ws = [] := by
    cases r2
    rfl
  subst hws
  cases r1 with
  | nil =>
    refine SeqAt.RcNeAt.lists (e := fun _ => true) p1.isList p2.isList rfl hu (fun j h1 _ => by simp at h1) X.prog X.w X.xe _ ?_
    exact ⟨.bl false, H, I, rfl, q⟩
  | cons r rs =>
    refine SeqAt.RcNeAt.lists_lengths p1.isList p2.isList (by simp) hu X.prog X.w X.xe _ ?_
    exact ⟨.bl true, H, I, rfl, q⟩
def rEqNil (K : PySem.W.Frag) : R2 := fun x y H Q => ∃ (a b : Addr) (xs : List V), x = .ref a ∧ y = .ref b ∧ SqL K H a xs ∧ SqL K H b [] ∧ Q (.bl xs.isEmpty) H
theorem op_eqNil {X : Cx} (hu : X.A.units < cLine) : OpR X (compareOp .Eq) (rEqNil X.K) := by
  intro pins s σ H x y v u Q I rx ry h
  obtain ⟨a, b, xs, rfl, rfl, ha, hb, q⟩ := h
  obtain rfl : v = Value.ref a := rx
  obtain rfl : u = Value.ref b := ry
  obtain ⟨us, r1, p1, _⟩ := I.list ha
  obtain ⟨ws, r2, p2, _⟩ := I.list hb
  have hws : ws = [] := by
    cases r2
    rfl
  subst hws
  cases r1 with
  | nil =>
    refine SeqAt.RcAt.lists (e := fun _ => true) p1.isList p2.isList rfl hu (fun j h1 _ => by simp at h1) X.prog X.w X.xe _ ?_
    exact ⟨.bl true, H, I, rfl, q⟩
  | cons r rs =>
    refine SeqAt.RcAt.lists_lengths p1.isList p2.isList (by simp) hu X.prog X.w X.xe _ ?_
    exact ⟨.bl false, H, I, rfl, q⟩
theorem rv_neNil {K : PySem.W.Frag} {H : Hp} {a b : Addr} {xs : List V} (ha : SqL K H a xs) (hb : SqL K H b []) : RV (rNeNil K) (.ref a) (.ref b) H (.bl (!xs.isEmpty)) := fun H1 e _ q => ⟨a, b, xs, rfl, rfl, ex_l e ha, ex_l e hb, q H1 (Ex.refl H1)⟩
theorem rv_eqNil {K : PySem.W.Frag} {H : Hp} {a b : Addr} {xs : List V} (ha : SqL K H a xs) (hb : SqL K H b []) : RV (rEqNil K) (.ref a) (.ref b) H (.bl xs.isEmpty) := fun H1 e _ q => ⟨a, b, xs, rfl, rfl, ex_l e ha, ex_l e hb, q H1 (Ex.refl H1)⟩
end FsR
namespace FsR
open PySem PySem.Spec PyProof.Rows L2 Evl
/-- xs != ys, the same objects in both -/
def rNeSame (K : PySem.W.Frag) : R2 := fun x y H Q => ∃ (a b : Addr) (xs : List V), x = .ref a ∧ y = .ref b ∧ SqL K H a xs ∧ SqL K H b xs ∧ (∀ v ∈ xs, ∃ c, v = V.ref c) ∧ Q (.bl false) H
theorem vals_refs : ∀ {xs : List V} {us ws : List Value}, (∀ v ∈ xs, ∃ c, v = V.ref c) → Vals xs us → Vals xs ws → us = ws
  | _, _, _, _, .nil, .nil => rfl
  | x :: xs, _ :: _, _ :: _, h, .cons r rs, .cons t ts => by
    obtain ⟨c, rfl⟩ := h x List.mem_cons_self
    cases r
    cases t
    rw [vals_refs (fun v hv => h v (List.mem_cons_of_mem _ hv)) rs ts]
theorem op_neSame {X : Cx} (hu : X.A.units < cLine) : OpR X (compareOp .NotEq) (rNeSame X.K) := by
  intro pins s σ H x y v u Q I rx ry h
  obtain ⟨a, b, xs, rfl, rfl, ha, hb, hx, q⟩ := h
  obtain rfl : v = Value.ref a := rx
  obtain rfl : u = Value.ref b := ry
  obtain ⟨us, r1, p1, _⟩ := I.list ha
  obtain ⟨ws, r2, p2, _⟩ := I.list hb
  have e := vals_refs hx r1 r2
  subst e
  refine SeqAt.RcNeAt.lists (e := fun _ => true) p1.isList p2.isList rfl hu (fun j h1 _ => SeqAt.EqAt.same _) X.prog X.w X.xe _ ?_
  refine ⟨.bl false, H, I, ?_, q⟩
  show Value.bool _ = Value.bool false
  simp
theorem rv_neSame {K : PySem.W.Frag} {H : Hp} {a b : Addr} {xs : List V} (ha : SqL K H a xs) (hb : SqL K H b xs) (hx : ∀ v ∈ xs, ∃ c, v = V.ref c) : RV (rNeSame K) (.ref a) (.ref b) H (.bl false) := fun H1 e _ q => ⟨a, b, xs, rfl, rfl, ex_l e ha, ex_l e hb, hx, q H1 (Ex.refl H1)⟩
end FsR

set_option Elab.async false
set_option linter.all false
set_option maxRecDepth 100000
set_option maxHeartbeats 8000000
/-! the terms with one part changed -/
namespace Fs
open PySem L2 Evl FsE FsC FsR FsT FsK FsQ
section
variable {σ : L2.St} {H H0 : Hp} {t : TA} {te t1 t2 t3 t4 t5 : TE} {D : Ends} {tz : TS} {K : PySem.W.Frag} {X : Addr → Prop} {l : Addr} {xs : List V} {p : Pr} {Pv : V → Hp → Prop} {i : Nat}
structure GrT (X : Addr → Prop) (l : Addr) (H0 H : Hp) (xs : List V) (p : Pr) : Prop where
  ex : Ex H0 H
  at_ : H l = some (.lst xs)
  ch : ChT (plus X l) H xs p
theorem GrT.to {H' : Hp} (g : GrT X l H0 H xs p) (e : Ex H H') : GrT X l H0 H' xs p := ⟨g.ex.trans e, e _ _ g.at_, g.ch.to (Ex.hid e)⟩
theorem GrT.put (g : GrT X l H0 H xs p) (h0 : H0 l = none) {v : V} (hv : ∃ a q, v = .ref a ∧ TrAt (hid (plus X l) H) a q ∧ Gd p q) : GrT X l H0 (upd H l (.lst (xs ++ [v]))) (xs ++ [v]) p := ⟨Ex.mut g.ex h0, upd_same, (g.ch.snoc hv).to ex_updp⟩
theorem s_appT (g : GrT X l H0 H xs p) (h0 : H0 l = none) (s : σ[i]? = some (some (.ref l))) (h : EvS te σ H (fun v H' => ∃ a q, v = .ref a ∧ TrAt (hid (plus X l) H') a q ∧ Gd p q)) (hz : xs.length < 100000) (k : ∀ v H', GrT X l H0 H' (xs ++ [v]) p → D.nx σ H') : tDrop (tBM K "list" rAppend (tVar i) (tCons te tNil)) D σ H :=
  s_appS g.at_ (ev_var s) h hz fun v H1 e1 hv => k v _ ((g.to e1).put h0 hv)
theorem q_appT (g : GrT X l H0 H xs p) (h0 : H0 l = none) (s : σ[i]? = some (some (.ref l))) (h : EvS te σ H (fun v H' => ∃ a q, v = .ref a ∧ TrAt (hid (plus X l) H') a q ∧ Gd p q)) (hz : xs.length < 100000) (k : ∀ v H', GrT X l H0 H' (xs ++ [v]) p → tz D σ H') : tSeq (tDrop (tBM K "list" rAppend (tVar i) (tCons te tNil))) tz D σ H :=
  s_appT (D := { D with nx := tz D }) g h0 s h hz k
/-- ("new", n, k, b) -/
theorem es_nw {n : Str} {k : Int} {r : Pr} {b : Addr} (h1 : Ev t1 σ H (.str n)) (h2 : Ev t2 σ H (.int k)) (h3 : Ev t3 σ H (.ref b)) (hX : Hid X H) (hb : TrAt (hid X H) b r) (hg : Gd p (.new n k r)) : EvS (tTup (tCons (tC (.str "new")) (tCons t1 (tCons t2 (tCons t3 tNil))))) σ H (fun v H' => ∃ a q, v = .ref a ∧ TrAt (hid X H') a q ∧ Gd p q) := fun H0 e0 Q q =>
  h1 H0 e0 _ fun H1 e1 => h2 H1 (e0.trans e1) _ fun H2 e2 => h3 H2 ((e0.trans e1).trans e2) _ fun H3 e3 => ⟨by show 4 ≤ sizeLine; decide, fun a ha => by
    have x3 := ((e0.trans e1).trans e2).trans e3
    refine q (.ref a) _ (((e1.trans e2).trans e3).trans (Ex.new ha)) ⟨a, _, rfl, ?_, hg⟩
    unfold TrAt
    exact ⟨b, hid_in ((hX.ex x3).new ha) upd_same, hb.ex (Ex.hid (x3.trans (Ex.new ha)))⟩⟩
/-- ("if", l, r, b, c) -/
theorem es_if {l r : Opd} {y n : Pr} {b c : Addr} (h1 : Ev t1 σ H l.v) (h2 : Ev t2 σ H r.v) (h3 : Ev t3 σ H (.ref b)) (h4 : Ev t4 σ H (.ref c)) (hX : Hid X H) (hb : TrAt (hid X H) b y) (hc : TrAt (hid X H) c n) (hg : Gd p (.cond l r y n)) : EvS (tTup (tCons (tC (.str "if")) (tCons t1 (tCons t2 (tCons t3 (tCons t4 tNil)))))) σ H (fun v H' => ∃ a q, v = .ref a ∧ TrAt (hid X H') a q ∧ Gd p q) := fun H0 e0 Q q =>
  h1 H0 e0 _ fun H1 e1 => h2 H1 (e0.trans e1) _ fun H2 e2 => h3 H2 ((e0.trans e1).trans e2) _ fun H3 e3 => h4 H3 (((e0.trans e1).trans e2).trans e3) _ fun H4 e4 => ⟨by show 5 ≤ sizeLine; decide, fun a ha => by
    have x3 := (((e0.trans e1).trans e2).trans e3).trans e4
    refine q (.ref a) _ ((((e1.trans e2).trans e3).trans e4).trans (Ex.new ha)) ⟨a, _, rfl, ?_, hg⟩
    unfold TrAt
    exact ⟨b, c, hid_in ((hX.ex x3).new ha) upd_same, hb.ex (Ex.hid (x3.trans (Ex.new ha))), hc.ex (Ex.hid (x3.trans (Ex.new ha)))⟩⟩
/-- ("call", n, u) -/
theorem es_cl {n : Str} {ops : List Opd} (h1 : Ev t1 σ H (.str n)) (h2 : EvS t2 σ H (fun v H' => ∃ u, v = .ref u ∧ hid X H' u = some (.lst (ops.map Opd.v)))) (hX : Hid X H) (hg : Gd p (.call n ops)) : EvS (tTup (tCons (tC (.str "call")) (tCons t1 (tCons t2 tNil)))) σ H (fun v H' => ∃ a q, v = .ref a ∧ TrAt (hid X H') a q ∧ Gd p q) := fun H0 e0 Q q =>
  h1 H0 e0 _ fun H1 e1 => h2 H1 (e0.trans e1) _ fun v H2 e2 ⟨u, hv, hu⟩ => by
    subst hv
    exact ⟨by show 3 ≤ sizeLine; decide, fun a ha => by
      have x3 := (e0.trans e1).trans e2
      refine q (.ref a) _ ((e1.trans e2).trans (Ex.new ha)) ⟨a, _, rfl, ?_, hg⟩
      unfold TrAt
      exact ⟨u, hid_in ((hX.ex x3).new ha) upd_same, (Ex.hid (Ex.new ha)) _ _ hu⟩⟩
/-- ("choice", u) -/
theorem es_ch {fs : List OfF} {vs : List V} (h2 : EvL t2 σ H vs) (hX : Hid X H) (hv : LsA FrAt (hid X H) vs fs) (hg : Gd p (.choice (toO fs))) : EvS (tTup (tCons (tC (.str "choice")) (tCons t2 tNil))) σ H (fun v H' => ∃ a q, v = .ref a ∧ TrAt (hid X H') a q ∧ Gd p q) := fun H0 e0 Q q =>
  h2 H0 e0 _ fun u H2 hun e2 h2' => ⟨by show 2 ≤ sizeLine; decide, fun a ha => by
      have x3 := e0.trans e2
      refine q (.ref a) _ (e2.trans (Ex.new ha)) ⟨a, _, rfl, ?_, hg⟩
      unfold TrAt
      exact ⟨u, vs, hid_in ((hX.ex x3).new ha) upd_same, (Ex.hid (Ex.new ha)) _ _ (hid_in ((hX.ex e0).new hun) h2'), ls_of (hv.imp fun _ _ y => y.ex (Ex.hid (x3.trans (Ex.new ha))))⟩⟩
theorem el_hidO {ops : List Opd} (hX : Hid X H) (h : EvL te σ H (ops.map Opd.v)) : EvS te σ H (fun v H' => ∃ u, v = .ref u ∧ hid X H' u = some (.lst (ops.map Opd.v))) := fun H1 e Q q => h H1 e _ fun u H2 hu e2 h2 => q _ H2 e2 ⟨u, rfl, hid_in ((hX.ex e).new hu) h2⟩
end
section
variable {P : Program} {w : World} {K : PySem.W.Frag} {mg : Str → Option Value} {base : Heap} {C CB : Addr}
abbrev nsChg : List Str := ["_law_term_here", "_law_found", "_law_offers", "_law_k", "_law_one", "_law_behind", "_law_others"]
theorem scChg : FnScope nsChg ["_law_term_here"] (defScope (topS 43)) := ⟨rfl, rfl, rfl, by decide +kernel, rfl, by decide +kernel, by decide +kernel⟩
end
end Fs

set_option Elab.async false
set_option linter.all false
set_option maxRecDepth 100000
set_option maxHeartbeats 16000000
/-! the terms with one part changed: the loops -/
namespace Fs
open PySem L2 Evl FsE FsC FsR FsT FsK FsQ
section
variable {H H0 : Hp} {te t6 : TE} {D : Ends} {K : PySem.W.Frag} {X : Addr → Prop} {l a b : Addr} {xs : List V} {p r : Pr} {F : L2.St → XK} {d : Nat} {v2 v3 v4 v5 v6 : Option V}
/-- for one in _law_changed(..): found.append(..) -/
theorem s_forChg (g : GrT X l H0 H xs p) (h0 : H0 l = none) (h6 : Ev t6 [some (.ref a), some (.ref l), v2, v3, v4, v5, v6] H (.ref b)) (hX : Hid X H) (hb : TrAt (hid (plus X l) H) b r) (hal : AlP r) (hd : r.depth ≤ (d : Int)) (hs : r.size ≤ 400) (h20 : r.depth ≤ 20) (hz : xs.length ≤ 50000)
    (item : ∀ H' xs' a' q', GrT X l H0 H' xs' p → Ex (hid (plus X l) H) (hid (plus X l) H') → TrAt (hid (plus X l) H') a' q' → Gd r q' → EvS te [some (.ref a), some (.ref l), v2, v3, some (.ref a'), v5, v6] H' (fun v H2 => ∃ a q, v = .ref a ∧ TrAt (hid (plus X l) H2) a q ∧ Gd p q))
    (k : ∀ H' xs' v4', GrT X l H0 H' xs' p → Ex (hid (plus X l) H) (hid (plus X l) H') → (xs'.length : Int) ≤ xs.length + 20 * r.size → D.nx [some (.ref a), some (.ref l), v2, v3, v4', v5, v6] H') :
    tFor (iList K (tCallS (spChg d) F (tCons t6 tNil))) (gName 4) (tDrop (tBM K "list" rAppend (tVar 1) (tCons te tNil))) D [some (.ref a), some (.ref l), v2, v3, v4, v5, v6] H := by
  refine h6 H (Ex.refl H) _ fun H1 e1 => ?_
  have g1 := g.to e1
  refine ⟨plus X l, b, r, rfl, (hX.ex e1).plus g1.at_, hb.ex (Ex.hid e1), hal, hd, hs, h20, fun l2 ys H8 hl2 e8 h8 hch hlen => ?_⟩
  have g8 := g1.to e8
  have n2 : l2 ≠ l := (ne_of_none g1.at_ hl2).symm
  have key : tFor (iList K (tC (.ref l2))) (gName 4) (tDrop (tBM K "list" rAppend (tVar 1) (tCons te tNil))) D [some (.ref a), some (.ref l), v2, v3, v4, v5, v6] H8 := by
    refine s_forLn (K := K) (xs := ys) ev_c (sq_of h8) (fun i σ' H' => ∃ (xs' : List V) (v4' : Option V), σ' = [some (.ref a), some (.ref l), v2, v3, v4', v5, v6] ∧ GrT X l H0 H' xs' p ∧ xs'.length ≤ xs.length + i ∧ H' l2 = some (.lst ys) ∧ Ex (hid (plus X l) H8) (hid (plus X l) H'))
      (fun H9 e9 => ⟨xs, _, rfl, g8.to e9, Nat.le_refl _, e9 _ _ h8, Ex.hid e9⟩) (fun i σ' H' _ ⟨_, _, _, _, _, h, _⟩ => sq_of h) (fun i v σ' H' hv ⟨xs', v4', hσ, g', lx, hl2', ex'⟩ => ?_) (fun σ' H' ⟨xs', v4', hσ, g', lx, hl2', ex'⟩ => ?_)
    · subst hσ
      obtain ⟨a', q', rfl, t', gd'⟩ := hch v (List.mem_of_getElem? hv)
      have hi := (List.getElem?_eq_some_iff.mp hv).1
      have t2 : TrAt (hid (plus X l) H') a' q' := (t'.ex ex_plus).ex ex'
      refine s_appS g'.at_ (ev_var rfl) (item H' xs' a' q' g' (fun c o hc => ex' _ _ ((Ex.hid (e1.trans e8)) _ _ hc)) t2 gd') (by omega) (fun v H9 e9 hv9 => ?_)
      have g9 := (g'.to e9).put h0 hv9
      refine ⟨_, _, rfl, g9, by rw [List.length_append]; show xs'.length + 1 ≤ xs.length + (i + 1); omega, by rw [upd_ne n2]; exact e9 _ _ hl2', fun c o hc => ex_updp _ _ ((Ex.hid e9) _ _ (ex' _ _ hc))⟩
    · subst hσ
      exact k H' xs' v4' g' (fun c o hc => ex' _ _ ((Ex.hid (e1.trans e8)) _ _ hc)) (by omega)
  exact key
/-- for one in _law_offers_changed(..): found.append(..) -/
theorem s_forOfC {o : Addr} {c : Str} {s m : Int} {op : Opd} {ns : List Str} (g : GrT X l H0 H xs p) (h0 : H0 l = none) (h6 : Ev t6 [some (.ref a), some (.ref l), v2, v3, v4, v5, v6] H (.ref o)) (hX : Hid X H) (hb : FrAt (hid (plus X l) H) (.ref o) (rowOf c s m op ns r)) (ok : OfOk c s m op ns) (hal : AlP r) (hd : r.depth ≤ (d : Int)) (hs : r.size ≤ 400) (h20 : r.depth ≤ 20) (hz : xs.length ≤ 50000)
    (item : ∀ H' xs' v f, GrT X l H0 H' xs' p → Ex (hid (plus X l) H) (hid (plus X l) H') → FrAt (hid (plus X l) H') v f → FGd (rowOf c s m op ns r) f → EvS te [some (.ref a), some (.ref l), v2, v3, some v, v5, v6] H' (fun v H2 => ∃ a q, v = .ref a ∧ TrAt (hid (plus X l) H2) a q ∧ Gd p q))
    (k : ∀ H' xs' v4', GrT X l H0 H' xs' p → Ex (hid (plus X l) H) (hid (plus X l) H') → (xs'.length : Int) ≤ xs.length + (7 + 20 * r.size) → D.nx [some (.ref a), some (.ref l), v2, v3, v4', v5, v6] H') :
    tFor (iList K (tCallS (spOfC d) F (tCons t6 tNil))) (gName 4) (tDrop (tBM K "list" rAppend (tVar 1) (tCons te tNil))) D [some (.ref a), some (.ref l), v2, v3, v4, v5, v6] H := by
  refine h6 H (Ex.refl H) _ fun H1 e1 => ?_
  have g1 := g.to e1
  refine ⟨plus X l, o, c, s, m, op, ns, r, rfl, (hX.ex e1).plus g1.at_, hb.ex (Ex.hid e1), ok, hal, hd, hs, h20, fun l2 ys H8 hl2 e8 h8 hch hlen => ?_⟩
  have g8 := g1.to e8
  have n2 : l2 ≠ l := (ne_of_none g1.at_ hl2).symm
  have key : tFor (iList K (tC (.ref l2))) (gName 4) (tDrop (tBM K "list" rAppend (tVar 1) (tCons te tNil))) D [some (.ref a), some (.ref l), v2, v3, v4, v5, v6] H8 := by
    refine s_forLn (K := K) (xs := ys) ev_c (sq_of h8) (fun i σ' H' => ∃ (xs' : List V) (v4' : Option V), σ' = [some (.ref a), some (.ref l), v2, v3, v4', v5, v6] ∧ GrT X l H0 H' xs' p ∧ xs'.length ≤ xs.length + i ∧ H' l2 = some (.lst ys) ∧ Ex (hid (plus X l) H8) (hid (plus X l) H'))
      (fun H9 e9 => ⟨xs, _, rfl, g8.to e9, Nat.le_refl _, e9 _ _ h8, Ex.hid e9⟩) (fun i σ' H' _ ⟨_, _, _, _, _, h, _⟩ => sq_of h) (fun i v σ' H' hv ⟨xs', v4', hσ, g', lx, hl2', ex'⟩ => ?_) (fun σ' H' ⟨xs', v4', hσ, g', lx, hl2', ex'⟩ => ?_)
    · subst hσ
      obtain ⟨f, t', gd'⟩ := hch v (List.mem_of_getElem? hv)
      have hi := (List.getElem?_eq_some_iff.mp hv).1
      have t2 : FrAt (hid (plus X l) H') v f := (t'.ex ex_plus).ex ex'
      refine s_appS g'.at_ (ev_var rfl) (item H' xs' v f g' (fun c o hc => ex' _ _ ((Ex.hid (e1.trans e8)) _ _ hc)) t2 gd') (by omega) (fun v H9 e9 hv9 => ?_)
      have g9 := (g'.to e9).put h0 hv9
      refine ⟨_, _, rfl, g9, by rw [List.length_append]; show xs'.length + 1 ≤ xs.length + (i + 1); omega, by rw [upd_ne n2]; exact e9 _ _ hl2', fun c o hc => ex_updp _ _ ((Ex.hid e9) _ _ (ex' _ _ hc))⟩
    · subst hσ
      exact k H' xs' v4' g' (fun c o hc => ex' _ _ ((Ex.hid (e1.trans e8)) _ _ hc)) (by omega)
  exact key
end
end Fs

set_option Elab.async false
set_option linter.all false
set_option maxRecDepth 100000
set_option maxHeartbeats 16000000
/-! the terms with one part changed: the def -/
namespace Fs
open PySem L2 Evl FsE FsC FsR FsT FsK FsQ
theorem LsA.takeB {α : Type} {R : Hp → V → α → Prop} {H : Hp} : ∀ {vs : List V} {xs : List α} (k : Nat), LsA R H vs xs → LsA R H (vs.take k) (xs.take k)
  | [], [], k, _ => by rw [List.take_nil, List.take_nil]; trivial
  | _ :: _, _ :: _, 0, _ => trivial
  | _ :: _, _ :: _, k + 1, h => ⟨h.1, LsA.takeB k h.2⟩
  | [], _ :: _, _, h => h.elim
  | _ :: _, [], _, h => h.elim
theorem LsA.dropB {α : Type} {R : Hp → V → α → Prop} {H : Hp} : ∀ {vs : List V} {xs : List α} (k : Nat), LsA R H vs xs → LsA R H (vs.drop k) (xs.drop k)
  | [], [], k, _ => by rw [List.drop_nil, List.drop_nil]; trivial
  | _ :: _, _ :: _, 0, h => h
  | _ :: _, _ :: _, k + 1, h => LsA.dropB k h.2
  | [], _ :: _, _, h => h.elim
  | _ :: _, [], _, h => h.elim
theorem of_alo : ∀ {os : Ofs}, AlO os → ∀ f ∈ ofL os, OfOk f.1 f.2.1 f.2.2.1 f.2.2.2.1 f.2.2.2.2.1 ∧ AlP f.2.2.2.2.2
  | .nil, _, f, hf => nomatch hf
  | .cons c s m op ns r os, h, f, hf => by
    unfold AlO at h
    rcases List.mem_cons.mp hf with rfl | hf
    · exact ⟨h.1, h.2.1⟩
    · exact of_alo h.2.2 f hf
theorem szs_mem : ∀ {fs : List OfF} {f : OfF}, f ∈ fs → f.2.2.2.2.2.size ≤ szs fs
  | g :: fs, f, hf => by
    have e : szs (g :: fs) = g.2.2.2.2.2.size + szs fs := by
      unfold szs
      rw [List.map_cons, List.sum_cons]
    have := szs_nn fs
    have := Pr.size_pos g.2.2.2.2.2
    rcases List.mem_cons.mp hf with rfl | hf
    · omega
    · have := szs_mem hf
      omega
def frD (f : OfF) : PyData := .tuple [.str f.1, .int f.2.1, .int f.2.2.1, opdD f.2.2.2.1, .list (f.2.2.2.2.1.map PyData.str), tmD f.2.2.2.2.2]
theorem dp_fr {K : PySem.W.Frag} {H : Hp} {v : V} {f : OfF} (h : FrAt H v f) : Dp K H v (frD f) := by
  obtain ⟨o, u, b, hv, h2, h3, h4⟩ := h
  subst hv
  exact .tup (st_of h2) (.cons (.str _) (.cons (.int _) (.cons (.int _) (.cons (dp_opd _) (.cons (.lst (sq_of h3) (dp_strsA _)) (.cons (dp_tm h4) .nil))))))
theorem eqv_fr (f g : OfF) : PyData.eqv (frD f) (frD g) = true ↔ f = g := by
  obtain ⟨c, s, m, op, ns, r⟩ := f
  obtain ⟨c', s', m', op', ns', r'⟩ := g
  have h1 := eqv_tm r r'
  simp [frD, PyData.eqv, PyData.eqvAll, eqv_opd, eqv_strL, h1]
theorem sh_fr {f : OfF} (h : FOk f) (hd : f.2.2.2.2.2.depth ≤ 20) : SeqAt.shaped (frD f) = true := by
  have e1 : (frD f).canLay0 = true := by
    simp [frD, PyData.canLay0, PyData.canLayAll0, h.1.ch.ok, opd_lay h.1.op, strs_lay fun y hy => (h.1.nz y hy).2, tm_lay h.2]
  have e2 : (frD f).depth ≤ 64 := by
    have := tm_dep f.2.2.2.2.2
    simp only [frD, PyData.depth, PyData.depthAll, opd_dep, strs_dep]
    omega
  show ((frD f).canLay0 && decide ((frD f).depth ≤ 64)) = true
  rw [e1, decide_eq_true e2]
  rfl
theorem el_rev {K : PySem.W.Frag} {σ : L2.St} {H : Hp} {ta : TE} {a : Addr} {xs : List V} (ha : Ev ta σ H (.ref a)) (h1 : H a = some (.lst xs)) : EvL (tRevL K ta) σ H xs.reverse := fun H1 e Q q =>
  ha H1 e _ fun H2 e2 => ⟨a, xs, rfl, sq_of ((e.trans e2) _ _ h1), fun u hu => q u _ (fresh_back e2 hu) (e2.trans (Ex.new hu)) upd_same⟩
theorem el_catV {σ : L2.St} {H : Hp} {ta tb : TE} {xs ys : List V} {b : Addr} (ha : EvL ta σ H xs) (hb : ∀ H1, Ex H H1 → Ev tb σ H1 (.ref b)) (hb' : H b = some (.lst ys)) (hz : xs.length + ys.length ≤ 100000) : EvL (tOp rCat ta tb) σ H (xs ++ ys) := fun H1 e Q q =>
  ha H1 e _ fun a H2 _ e2 h2 => hb H2 (e.trans e2) H2 (Ex.refl H2) _ fun H3 e3 => ⟨a, b, xs, ys, rfl, rfl, e3 _ _ h2, ((e.trans e2).trans e3) _ _ hb', sz_of hz, fun r hr => q r _ (fresh_back (e2.trans e3) hr) ((e2.trans e3).trans (Ex.new hr)) upd_same⟩
theorem ops_ch {ops : List Opd} {k : Nat} {o : Opd} (hk : ops[k]? = some o) (h : ∀ o ∈ ops, OpdOk o) : (∀ x ∈ ops.take k ++ [chO o] ++ ops.drop (k + 1), OpdQ x) ∧ ops.take k ++ [chO o] ++ ops.drop (k + 1) ≠ ops ∧ (ops.take k ++ [chO o] ++ ops.drop (k + 1)).length = ops.length := by
  have sp := split_at hk
  obtain ⟨c1, c2⟩ := cho_q (h o (List.mem_of_getElem? hk))
  refine ⟨fun x hx => ?_, fun z => ?_, ?_⟩
  · rcases List.mem_append.mp hx with hx | hx
    · rcases List.mem_append.mp hx with hx | hx
      · exact opd_q (h x (List.mem_of_mem_take hx))
      · rw [List.mem_singleton.mp hx]
        exact c1
    · exact opd_q (h x (List.mem_of_mem_drop hx))
  · have z' := z.trans sp
    have z2 := List.append_cancel_right z'
    have z3 := List.append_cancel_left z2
    exact c2 (by injection z3)
  · conv => rhs; rw [sp]
    simp only [List.length_append, List.length_singleton]
theorem ops_rm {ops : List Opd} {k : Nat} {o : Opd} (hk : ops[k]? = some o) (h : ∀ o ∈ ops, OpdOk o) : (∀ x ∈ ops.take k ++ ops.drop (k + 1), OpdQ x) ∧ ops.take k ++ ops.drop (k + 1) ≠ ops ∧ (ops.take k ++ ops.drop (k + 1)).length + 1 = ops.length := by
  have sp := split_at hk
  have len : (ops.take k ++ ops.drop (k + 1)).length + 1 = ops.length := by
    conv => rhs; rw [sp]
    simp only [List.length_append, List.length_singleton]
    omega
  refine ⟨fun x hx => (List.mem_append.mp hx).elim (fun g => opd_q (h x (List.mem_of_mem_take g))) fun g => opd_q (h x (List.mem_of_mem_drop g)), fun z => by rw [z] at len; omega, len⟩
section
variable {P : Program} {w : World} {K : PySem.W.Frag} {mg : Str → Option Value} {base : Heap} {C CB : Addr}
theorem ok_chg {f g : Addr} {fd gd : FuncData} (F : Fun K "_law_changed" "_law_changed" (topS 43) f fd) (FO : Fun K "_law_offers_changed" "_law_offers_changed" (topS 42) g gd) (L : LawT K mg) (GW : CalX P w K mg base CX0 1 "_law_word_changed" spWdC) (GO : CalX P w K mg base CX0 2 "_law_operand_changed" spOpC)
    (hm : mg "_law_changed" = some (.ref f)) (kp : PySem.W.keepIn K (.ref f) = true) (bd : Binds K fd ["_law_term_here"] []) (hmO : mg "_law_offers_changed" = some (.ref g)) (kpO : PySem.W.keepIn K (.ref g) = true) (bdO : Binds K gd ["_law_offer_here"] []) :
    ∀ d : Nat, FnOk P w K mg base CX0 (3 + 2 * d) f fd ["_law_term_here"] (spChg d)
  | 0 => by
    refine F.ok (k := 2) scChg (fun vs H Q E h => ?_) (fun cdv A outer s H vs Q E hr h => ?_)
    · obtain ⟨X, a, p, rfl, _⟩ := h
      rfl
    · obtain ⟨X, a, p, rfl, _, _, _, hd, _⟩ := h
      have := Pr.depth_pos p
      exact absurd hd (by omega)
  | d + 1 => by
    have ih := ok_chg F FO L GW GO hm kp bd hmO kpO bdO d
    have GC : CalX P w K mg base CX0 (3 + 2 * d) "_law_changed" (spChg d) := ⟨f, fd, _, ih, hm, kp, bd⟩
    have GF : CalX P w K mg base CX0 (3 + 2 * d + 1) "_law_offers_changed" (spOfC d) := ⟨g, gd, _, ok_ofC (by omega) FO L GW GO GC, hmO, kpO, bdO⟩
    refine F.ok (k := 3 + 2 * d + 1) scChg (fun vs H Q E h => ?_) (fun cdv A outer s H vs Q E hr h => ?_)
    · obtain ⟨X, a, p, rfl, _⟩ := h
      rfl
    · obtain ⟨X, a, p, rfl, hX, ht, hal, hdep, hsiz, h20, q⟩ := h
      refine ⟨_, pss_cons (ps_set (i := 1) scChg.nd rfl (Or.inl rfl) (pe_lst pa_nil))
        (pss_cut (ps_if (pt_cmpR op_eq (pe_ix ix_tup (pv 0) pe_int (fun _ _ => rfl)) pe_str (nomark _))
          (pss_cons (ps_set (i := 2) scChg.nd rfl (Or.inl rfl) (pe_ix ix_tup (pv 0) pe_int (fun _ _ => rfl)))
          (pss_cons (ps_for PassesOwn.never rfl (pi_range1 rfl L.range (pa_cons (pe_callB call_len_seq (by rfl) L.len PySem.boot_len (pa_cons (pv 2) pa_nil)) pa_nil)) (pg_name (i := 3) scChg.nd rfl (Or.inl rfl))
            (pss_cons (ps_expr (pe_bm PySem.F.plainAttrs_list PySem.F.slot_list_append PySem.F.type_list_append mt_append (pv 1) (pa_cons (pe_tup (pa_cons pe_str (pa_cons (pe_op op_cat (pe_slice sl_list (pv 2) po_none (po_some (pv 3))) (pe_slice sl_list (pv 2) (po_some (pe_op op_add (pv 3) pe_int)) po_none)) pa_nil))) pa_nil)))
            (pss_one (ps_for PassesOwn.never rfl (pi_list (pe_cx (E := fun _ => E0) GF hr (Nat.le_refl _) (by rfl) at0 (pa_cons (pe_ix ix_list (pv 2) (pv 3) (fun _ _ => rfl)) pa_nil))) (pg_name (i := 4) scChg.nd rfl (Or.inl rfl))
              (pss_one (ps_expr (pe_bm PySem.F.plainAttrs_list PySem.F.slot_list_append PySem.F.type_list_append mt_append (pv 1) (pa_cons (pe_tup (pa_cons pe_str (pa_cons (pe_op op_cat (pe_op op_cat (pe_slice sl_list (pv 2) po_none (po_some (pv 3))) (pe_lst (pa_cons (pv 4) pa_nil))) (pe_slice sl_list (pv 2) (po_some (pe_op op_add (pv 3) pe_int)) po_none)) pa_nil))) pa_nil))))))))
          (pss_cons (ps_if (PW.pt (pw_and (pt_cmpR op_eq (pe_callB call_len_seq (by rfl) L.len PySem.boot_len (pa_cons (pv 2) pa_nil)) pe_int (nomark _)) (pw_and1 (pt_cmpR (op_neD hr.units) (pe_ix ix_list (pv 2) pe_int (fun _ _ => rfl)) (pe_ix ix_list (pv 2) pe_int (fun _ _ => rfl)) (nomark _)))))
            (pss_one (ps_expr (pe_bm PySem.F.plainAttrs_list PySem.F.slot_list_append PySem.F.type_list_append mt_append (pv 1) (pa_cons (pe_tup (pa_cons pe_str (pa_cons (pe_revL (pv 2)) pa_nil))) pa_nil)))) pss_nil)
          (pss_one (ps_if (pt_cmpR (op_eqNil hr.units0) (pv 2) (pe_lst pa_nil) (nomark _)) (pss_one (ps_expr (pe_bm PySem.F.plainAttrs_list PySem.F.slot_list_append PySem.F.type_list_append mt_append (pv 1) (pa_cons (pe_tup (pa_cons pe_str (pa_cons pe_str (pa_cons (pe_lst pa_nil) pa_nil)))) pa_nil)))) pss_nil)))))
          (pss_one (ps_if (pt_cmpR op_eq (pe_ix ix_tup (pv 0) pe_int (fun _ _ => rfl)) pe_str (nomark _))
            (pss_cons (ps_expr (pe_bm PySem.F.plainAttrs_list PySem.F.slot_list_append PySem.F.type_list_append mt_append (pv 1) (pa_cons (pe_tup (pa_cons pe_str (pa_cons (pe_cx (E := fun _ => E0) GW hr (by omega) (by rfl) at0 (pa_cons (pe_ix ix_tup (pv 0) pe_int (fun _ _ => rfl)) pa_nil)) (pa_cons (pe_ix ix_tup (pv 0) pe_int (fun _ _ => rfl)) (pa_cons (pe_ix ix_tup (pv 0) pe_int (fun _ _ => rfl)) pa_nil))))) pa_nil)))
            (pss_cons (ps_expr (pe_bm PySem.F.plainAttrs_list PySem.F.slot_list_append PySem.F.type_list_append mt_append (pv 1) (pa_cons (pe_tup (pa_cons pe_str (pa_cons (pe_ix ix_tup (pv 0) pe_int (fun _ _ => rfl)) (pa_cons (pe_op op_sub pe_int (pe_ix ix_tup (pv 0) pe_int (fun _ _ => rfl))) (pa_cons (pe_ix ix_tup (pv 0) pe_int (fun _ _ => rfl)) pa_nil))))) pa_nil)))
            (pss_one (ps_for PassesOwn.never rfl (pi_list (pe_cx (E := fun _ => E0) GC hr (by omega) (by rfl) at0 (pa_cons (pe_ix ix_tup (pv 0) pe_int (fun _ _ => rfl)) pa_nil))) (pg_name (i := 4) scChg.nd rfl (Or.inl rfl))
              (pss_one (ps_expr (pe_bm PySem.F.plainAttrs_list PySem.F.slot_list_append PySem.F.type_list_append mt_append (pv 1) (pa_cons (pe_tup (pa_cons pe_str (pa_cons (pe_ix ix_tup (pv 0) pe_int (fun _ _ => rfl)) (pa_cons (pe_ix ix_tup (pv 0) pe_int (fun _ _ => rfl)) (pa_cons (pv 4) pa_nil))))) pa_nil))))))))
            (pss_one (ps_if (pt_cmpR op_eq (pe_ix ix_tup (pv 0) pe_int (fun _ _ => rfl)) pe_str (nomark _))
              (pss_cons (ps_expr (pe_bm PySem.F.plainAttrs_list PySem.F.slot_list_append PySem.F.type_list_append mt_append (pv 1) (pa_cons (pe_tup (pa_cons pe_str (pa_cons (pe_cx (E := fun _ => E0) GO hr (by omega) (by rfl) at0 (pa_cons (pe_ix ix_tup (pv 0) pe_int (fun _ _ => rfl)) pa_nil)) (pa_cons (pe_ix ix_tup (pv 0) pe_int (fun _ _ => rfl)) (pa_cons (pe_ix ix_tup (pv 0) pe_int (fun _ _ => rfl)) (pa_cons (pe_ix ix_tup (pv 0) pe_int (fun _ _ => rfl)) pa_nil)))))) pa_nil)))
              (pss_cons (ps_expr (pe_bm PySem.F.plainAttrs_list PySem.F.slot_list_append PySem.F.type_list_append mt_append (pv 1) (pa_cons (pe_tup (pa_cons pe_str (pa_cons (pe_ix ix_tup (pv 0) pe_int (fun _ _ => rfl)) (pa_cons (pe_cx (E := fun _ => E0) GO hr (by omega) (by rfl) at0 (pa_cons (pe_ix ix_tup (pv 0) pe_int (fun _ _ => rfl)) pa_nil)) (pa_cons (pe_ix ix_tup (pv 0) pe_int (fun _ _ => rfl)) (pa_cons (pe_ix ix_tup (pv 0) pe_int (fun _ _ => rfl)) pa_nil)))))) pa_nil)))
              (pss_cons (ps_for PassesOwn.never rfl (pi_list (pe_cx (E := fun _ => E0) GC hr (by omega) (by rfl) at0 (pa_cons (pe_ix ix_tup (pv 0) pe_int (fun _ _ => rfl)) pa_nil))) (pg_name (i := 4) scChg.nd rfl (Or.inl rfl))
                (pss_one (ps_expr (pe_bm PySem.F.plainAttrs_list PySem.F.slot_list_append PySem.F.type_list_append mt_append (pv 1) (pa_cons (pe_tup (pa_cons pe_str (pa_cons (pe_ix ix_tup (pv 0) pe_int (fun _ _ => rfl)) (pa_cons (pe_ix ix_tup (pv 0) pe_int (fun _ _ => rfl)) (pa_cons (pv 4) (pa_cons (pe_ix ix_tup (pv 0) pe_int (fun _ _ => rfl)) pa_nil)))))) pa_nil)))))
              (pss_one (ps_for PassesOwn.never rfl (pi_list (pe_cx (E := fun _ => E0) GC hr (by omega) (by rfl) at0 (pa_cons (pe_ix ix_tup (pv 0) pe_int (fun _ _ => rfl)) pa_nil))) (pg_name (i := 4) scChg.nd rfl (Or.inl rfl))
                (pss_one (ps_expr (pe_bm PySem.F.plainAttrs_list PySem.F.slot_list_append PySem.F.type_list_append mt_append (pv 1) (pa_cons (pe_tup (pa_cons pe_str (pa_cons (pe_ix ix_tup (pv 0) pe_int (fun _ _ => rfl)) (pa_cons (pe_ix ix_tup (pv 0) pe_int (fun _ _ => rfl)) (pa_cons (pe_ix ix_tup (pv 0) pe_int (fun _ _ => rfl)) (pa_cons (pv 4) pa_nil)))))) pa_nil)))))))))
              (pss_cons (ps_expr (pe_bm PySem.F.plainAttrs_list PySem.F.slot_list_append PySem.F.type_list_append mt_append (pv 1) (pa_cons (pe_tup (pa_cons pe_str (pa_cons (pe_cx (E := fun _ => E0) GW hr (by omega) (by rfl) at0 (pa_cons (pe_ix ix_tup (pv 0) pe_int (fun _ _ => rfl)) pa_nil)) (pa_cons (pe_ix ix_tup (pv 0) pe_int (fun _ _ => rfl)) pa_nil)))) pa_nil)))
              (pss_one (ps_for PassesOwn.never rfl (pi_range1 rfl L.range (pa_cons (pe_callB call_len_seq (by rfl) L.len PySem.boot_len (pa_cons (pe_ix ix_tup (pv 0) pe_int (fun _ _ => rfl)) pa_nil)) pa_nil)) (pg_name (i := 3) scChg.nd rfl (Or.inl rfl))
                (pss_cons (ps_set (i := 5) scChg.nd rfl (Or.inl rfl) (pe_slice sl_list (pe_ix ix_tup (pv 0) pe_int (fun _ _ => rfl)) (po_some (pe_op op_add (pv 3) pe_int)) po_none))
                (pss_cons (ps_set (i := 6) scChg.nd rfl (Or.inl rfl) (pe_op op_cat (pe_op op_cat (pe_slice sl_list (pe_ix ix_tup (pv 0) pe_int (fun _ _ => rfl)) po_none (po_some (pv 3))) (pe_lst (pa_cons (pe_cx (E := fun _ => E0) GO hr (by omega) (by rfl) at0 (pa_cons (pe_ix ix_list (pe_ix ix_tup (pv 0) pe_int (fun _ _ => rfl)) (pv 3) (fun _ _ => rfl)) pa_nil)) pa_nil))) (pv 5)))
                (pss_cons (ps_expr (pe_bm PySem.F.plainAttrs_list PySem.F.slot_list_append PySem.F.type_list_append mt_append (pv 1) (pa_cons (pe_tup (pa_cons pe_str (pa_cons (pe_ix ix_tup (pv 0) pe_int (fun _ _ => rfl)) (pa_cons (pv 6) pa_nil)))) pa_nil)))
                (pss_one (ps_expr (pe_bm PySem.F.plainAttrs_list PySem.F.slot_list_append PySem.F.type_list_append mt_append (pv 1) (pa_cons (pe_tup (pa_cons pe_str (pa_cons (pe_ix ix_tup (pv 0) pe_int (fun _ _ => rfl)) (pa_cons (pe_op op_cat (pe_slice sl_list (pe_ix ix_tup (pv 0) pe_int (fun _ _ => rfl)) po_none (po_some (pv 3))) (pe_slice sl_list (pe_ix ix_tup (pv 0) pe_int (fun _ _ => rfl)) (po_some (pe_op op_add (pv 3) pe_int)) po_none)) pa_nil)))) pa_nil)))))))))))))))
        (pss_one (ps_ret (pv 1)))), ?_⟩
      refine q_asgL (xs := []) (el_lst ea_nil (by decide)) (fun l H1 hl e1 h1 => ?_)
      have h0 : H l = none := hl
      have g0 : GrT X l H H1 [] p := ⟨e1, h1, fun v hv => nomatch hv⟩
      have hY : ∀ {H' : Hp} {xs : List V}, GrT X l H H' xs p → Hid (plus X l) H' := fun g => (hX.ex g.ex).plus g.at_
      have eb : ∀ {H' : Hp} {xs : List V}, GrT X l H H' xs p → Ex (hid X H) (hid (plus X l) H') := fun g => ex_newp h0 g.ex
      have ixk : ∀ {xs : List V} {H9 : Hp} {σ9 : L2.St} {i : Int} {v : V}, H9 a = some (.tup xs) → σ9[0]? = some (some (.ref a)) → atI xs i = some v → Ev (tOp (rIxT K) (tVar 0) (tC (.int i))) σ9 H9 v := fun h9 s0 g => ev_op (ev_var s0) ev_c (rv_ixT (st_of h9) g)
      refine q_cut (M := fun σ' H' => ∃ (xs : List V) (v2 v3 v4 v5 v6 : Option V), σ' = [some (.ref a), some (.ref l), v2, v3, v4, v5, v6] ∧ GrT X l H H' xs p ∧ (xs.length : Int) ≤ 20 * p.size) ?_ (fun σ' H' ⟨xs, v2, v3, v4, v5, v6, hσ, g, lx⟩ => ?_)
      rotate_left
      · subst hσ
        refine s_ret (ev_var rfl) (fun H9 e9 => ?_)
        have g9 := g.to e9
        exact q l xs H9 h0 g9.ex g9.at_ g9.ch lx
      cases p with
      | choice os =>
        unfold TrAt at ht
        obtain ⟨l0, ys, t1, t2, t3⟩ := ht
        have ta := (hid_out t1).2
        have tl := (hid_out t2).2
        have fr := of_ls t3
        have hly := fr.length
        have hal' := hal
        unfold AlP at hal'
        obtain ⟨hlen, hao⟩ := hal'
        have strong := of_alo hao
        have el : os.len = (ofL os).length := by
          conv => lhs; rw [← toO_ofL os]
          exact toO_len _
        have es : os.sum = szs (ofL os) := by
          conv => lhs; rw [← toO_ofL os]
          exact toO_sum _
        have hd1 := hdep
        rw [ch_dep] at hd1
        have hs1 := hsiz
        rw [ch_siz, el, es] at hs1
        have ndp := (of_depth (os := os)).2
        refine s_if (b := true) (et_is (et_test (ev_op (x := .str "choice") (ixk (e1 _ _ ta) rfl rfl) ev_c (rv_eq rfl))) kC_C) (fun _ H2 e2 => ?_) (fun z => nomatch z)
        refine q_asg (v := .ref l0) (ixk ((e1.trans e2) _ _ ta) rfl rfl) (fun H3 e3 => ?_)
        have g3 := g0.to (e2.trans e3)
        refine q_forR1 (n := ((ofL os).length : Int)) (ea_cons (ev_is (ev_cb (ea_cons (ev_var rfl) ea_nil) (fun H6 e6 Q' q' => ⟨l0, _, rfl, .inl (sq_of ((g3.ex.trans e6) _ _ tl)), q' H6 (Ex.refl H6)⟩)) (by rw [hly])) ea_nil) (by omega)
          (fun i σ' H' => ∃ (xs : List V) (v3 v4 : Option V), σ' = [some (.ref a), some (.ref l), some (.ref l0), v3, v4, none, none] ∧ GrT X l H H' xs (.choice os) ∧ (xs.length : Int) ≤ 8 * (i : Int) + 20 * szs ((ofL os).take i))
          (fun H6 e6 => ⟨_, _, _, rfl, g3.to e6, by show (0 : Int) ≤ _; rw [List.take_zero]; decide⟩) (fun i σ' H' hi ⟨xs, v3, v4, hσ, g, lx⟩ => ?_) (fun σ' H' ⟨xs, v3, v4, hσ, g, lx⟩ => ?_)
        · subst hσ
          have hi' : i < (ofL os).length := by omega
          have hz : (ofL os)[i]? = some (ofL os)[i] := List.getElem?_eq_getElem hi'
          generalize (ofL os)[i] = ff at hz
          obtain ⟨c, s9, m, op, ns, r⟩ := ff
          have hfm := List.mem_of_getElem? hz
          obtain ⟨sok, sal⟩ := strong _ hfm
          have sdp : r.depth ≤ os.depth := ndp _ hfm
          have ssz : r.size ≤ szs (ofL os) := szs_mem hfm
          obtain ⟨y, ff, hy, hz', fry⟩ := fr.at_ (i := i) (by omega)
          rw [hz] at hz'
          cases hz'
          obtain ⟨oo, uu, bb, hyo, rest⟩ := id fry
          subst hyo
          have szt : szs ((ofL os).take (i + 1)) = szs ((ofL os).take i) + r.size := by
            rw [List.take_add_one, hz, szs_app]
            show _ + szs [(c, s9, m, op, ns, r)] = _
            rw [szs_one]
          have szt2 : szs ((ofL os).take i) ≤ szs (ofL os) := by
            have := szs_nn ((ofL os).drop i)
            have e := szs_app ((ofL os).take i) ((ofL os).drop i)
            rw [List.take_append_drop] at e
            omega
          have eD : cutV ys (some ((i + 1 : Nat) : Int)) none = ys.drop (i + 1) := cut_dropB
          have eT : cutV ys none (some (i : Int)) = ys.take i := cut_takeB
          have lT : (cutV ys none (some (i : Int))).length ≤ 6 := by rw [eT, List.length_take]; omega
          have lD : (cutV ys (some ((i + 1 : Nat) : Int)) none).length ≤ 6 := by rw [eD, List.length_drop]; omega
          have k1 : ∀ {H9 : Hp} {σ9 : L2.St}, σ9[3]? = some (some (.int (i : Int))) → Ev (tOp (rI0 fun i j => .int (i + j)) (tVar 3) (tC (.int 1))) σ9 H9 (.int ((i + 1 : Nat) : Int)) := fun s3 => ev_is (ev_op (x := .int (i : Int)) (ev_var s3) ev_c rv_I0) (congrArg V.int (show (i : Int) + 1 = ((i + 1 : Nat) : Int) by omega))
          have tl' := g.ex _ _ tl
          refine q_appT g h0 rfl (es_ch (fs := (ofL os).take i ++ (ofL os).drop (i + 1)) (vs := ys.take i ++ ys.drop (i + 1)) (by
            rw [← eT, ← eD]
            exact el_cat (el_sl (K := K) (ev_var rfl) eo_none (eo_some (ev_var rfl)) (sq_of tl')) (el_sl (K := K) (ev_var rfl) (eo_some (k1 rfl)) eo_none (sq_of tl')) (by omega)) (hY g) (((Fs.LsA.takeB i fr).append (Fs.LsA.dropB (i + 1) fr)).imp fun _ _ z => z.ex (eb g)) (gd_rem (al_q hal) hz)) (by omega) (fun v H7 g7 => ?_)
          have tl7 := g7.ex _ _ tl
          refine s_forOfC (F := fun _ => E0) (c := c) (s := s9) (m := m) (op := op) (ns := ns) (r := r) g7 h0 (ev_op (ev_var rfl) (ev_var rfl) (rv_ixL (sq_of tl7) (atI_nat hy))) (hX.ex g7.ex) (fry.ex (eb g7)) sok sal (by omega) (by omega) (by rw [ch_dep] at h20; omega) (by rw [List.length_append]; show xs.length + 1 ≤ 50000; omega) (fun H' xs' v' f' g' ex' tq gq => ?_) (fun H' xs' v4' g' ex' lx' => ⟨xs', _, _, rfl, g', ?_⟩)
          · have tl9 := g'.ex _ _ tl
            refine es_ch (fs := (ofL os).take i ++ [f'] ++ (ofL os).drop (i + 1)) (vs := ys.take i ++ [v'] ++ ys.drop (i + 1)) (by
              rw [← eT, ← eD]
              exact el_cat (el_cat (el_sl (K := K) (ev_var rfl) eo_none (eo_some (ev_var rfl)) (sq_of tl9)) (el_lst (ea_cons (ev_var rfl) ea_nil) (by show 1 ≤ 100000; decide)) (by show _ + 1 ≤ 100000; omega)) (el_sl (K := K) (ev_var rfl) (eo_some (k1 rfl)) eo_none (sq_of tl9)) (by rw [List.length_append]; show _ + 1 + _ ≤ 100000; omega)) (hY g') ((((Fs.LsA.takeB i fr).imp fun _ _ z => z.ex (eb g')).snoc tq).append ((Fs.LsA.dropB (i + 1) fr).imp fun _ _ z => z.ex (eb g'))) (gd_rep (al_q hal) hz gq)
          · rw [List.length_append] at lx'
            have : ((xs.length + [v].length : Nat) : Int) = xs.length + 1 := rfl
            omega
        · subst hσ
          have e9 : (((ofL os).length : Int)).toNat = (ofL os).length := by omega
          rw [e9, List.take_length] at lx
          have psz : (Pr.choice os).size = max 1 ((ofL os).length : Int) + szs (ofL os) := by rw [ch_siz, el, es]
          have snn := szs_nn (ofL os)
          have fin : ∀ {H9 : Hp} {xs9 : List V} {D9 : Ends}, (∀ H2 xs2, GrT X l H H2 xs2 (.choice os) → (xs2.length : Int) ≤ 20 * (Pr.choice os).size → D9.nx [some (.ref a), some (.ref l), some (.ref l0), v3, v4, none, none] H2) → GrT X l H H9 xs9 (.choice os) → (xs9.length : Int) ≤ 8 * ((ofL os).length : Int) + 20 * szs (ofL os) + 1 →
              tIfS (tTest (tOp (rEqNil K) (tVar 2) (tLst tNil))) (tDrop (tBM K "list" rAppend (tVar 1) (tCons (tTup (tCons (tC (.str "call")) (tCons (tC (.str "f")) (tCons (tLst tNil) tNil)))) tNil))) tNext D9 [some (.ref a), some (.ref l), some (.ref l0), v3, v4, none, none] H9 := fun {H9 xs9 D9} hd g9 lx9 => by
            refine s_when (b := ys.isEmpty) (et_test (ev_opL (ev_var rfl) lst0 (fun p H2 hp e2 => rv_eqNil (sq_of (e2 _ _ (g9.ex _ _ tl))) (sq_of hp)))) (fun hb H2 e2 => ?_) (fun hb H2 e2 => hd H2 xs9 (g9.to e2) (by rw [psz]; omega))
            have hnil : os = .nil := by
              cases os with
              | nil => rfl
              | cons =>
                have : ys = [] := List.isEmpty_iff.mp hb
                subst this
                exact absurd hly (by show ¬ 0 = _ + 1; omega)
            have g10 := g9.to e2
            exact s_appT g10 h0 rfl (es_cl (n := "f") (ops := []) ev_c (el_hidO (hY g10) lst0) (hY g10) (by rw [hnil]; exact gd_nil)) (by omega) (fun v H11 g11 => hd H11 _ g11 (by rw [psz, List.length_append]; show ((xs9.length + 1 : Nat) : Int) ≤ _; omega))
          by_cases h2 : (ofL os).length = 2
          · obtain ⟨f0, f1, hf⟩ : ∃ f0 f1, ofL os = [f0, f1] := by
              match ofL os, h2 with
              | [f0, f1], _ => exact ⟨f0, f1, rfl⟩
            have hos : os = toO [f0, f1] := by rw [← hf, toO_ofL]
            obtain ⟨y0, y1, hys⟩ : ∃ y0 y1, ys = [y0, y1] := by
              match ys, hly.trans h2 with
              | [y0, y1], _ => exact ⟨y0, y1, rfl⟩
            rw [hf, hys] at fr
            obtain ⟨fr0, fr1, _⟩ := fr
            have m0 : f0 ∈ ofL os := by rw [hf]; exact List.mem_cons_self ..
            have m1 : f1 ∈ ofL os := by rw [hf]; exact List.mem_cons_of_mem _ (List.mem_cons_self ..)
            have s0 := sh_fr (of_alr (al_r hao) f0 m0) (by have := ndp f0 m0; rw [ch_dep] at h20; omega)
            have s1 := sh_fr (of_alr (al_r hao) f1 m1) (by have := ndp f1 m1; rw [ch_dep] at h20; omega)
            refine q_when (b := true && !(PyData.eqv (frD f0) (frD f1))) (et_and (a := true) (et_is (et_test (ev_op (x := .int 2) (y := .int 2) (ev_is (ev_cb (ea_cons (ev_var rfl) ea_nil) (fun H6 e6 Q' q' => ⟨l0, _, rfl, .inl (sq_of ((g.ex.trans e6) _ _ tl)), q' H6 (Ex.refl H6)⟩)) (by rw [hys]; rfl)) ev_c (rv_eq rfl))) (by decide)) (fun _ => et_test (ev_op (x := y0) (y := y1) (ev_op (ev_var rfl) ev_c (rv_ixL (sq_of (g.ex _ _ tl)) (by rw [hys]; rfl))) (ev_op (ev_var rfl) ev_c (rv_ixL (sq_of (g.ex _ _ tl)) (by rw [hys]; rfl))) (fun H6 e6 Q6 q6 => ⟨frD f0, frD f1, dp_fr (fr0.ex (fun c o hc => (hid_ex _ _ ((eb (g.to e6)) _ _ hc)))), dp_fr (fr1.ex (fun c o hc => (hid_ex _ _ ((eb (g.to e6)) _ _ hc)))), s0, s1, q6 H6 (Ex.refl H6)⟩)))) (fun hb H6 e6 => ?_) (fun hb H6 e6 => ?_)
            · have hne : f0 ≠ f1 := fun z => by
                have := (eqv_fr f0 f1).mpr z
                rw [this] at hb
                cases hb
              have g6 := g.to e6
              refine q_appT g6 h0 rfl (es_ch (fs := [f1, f0]) (vs := [y1, y0]) (by
                have := el_rev (K := K) (a := l0) (xs := ys) (ta := tVar 2) (σ := [some (.ref a), some (.ref l), some (.ref l0), v3, v4, none, none]) (ev_var rfl) (g6.ex _ _ tl)
                rw [hys] at this
                exact this) (hY g6) ⟨fr1.ex (eb g6), fr0.ex (eb g6), trivial⟩ (by rw [hos]; exact gd_rev (by rw [← hos]; exact al_q hal) hne)) (by omega) (fun v H7 g7 => ?_)
              exact fin (fun H2 xs2 gg ll => ⟨xs2, _, _, _, _, _, rfl, gg, ll⟩) g7 (by rw [List.length_append]; show ((xs.length + 1 : Nat) : Int) ≤ _; omega)
            · exact fin (fun H2 xs2 gg ll => ⟨xs2, _, _, _, _, _, rfl, gg, ll⟩) (g.to e6) (by omega)
          · refine q_when (b := false) (et_is (et_and (a := false) (b := false) (et_is (et_test (ev_op (x := .int ((ofL os).length : Int)) (ev_is (ev_cb (ea_cons (ev_var rfl) ea_nil) (fun H6 e6 Q' q' => ⟨l0, _, rfl, .inl (sq_of ((g.ex.trans e6) _ _ tl)), q' H6 (Ex.refl H6)⟩)) (by rw [hly])) ev_c (rv_eq rfl))) (decide_eq_false fun z => h2 (by have := V.int.inj z; omega))) (fun z => nomatch z)) rfl) (fun z => nomatch z) (fun _ H6 e6 => ?_)
            exact fin (fun H2 xs2 gg ll => ⟨xs2, _, _, _, _, _, rfl, gg, ll⟩) (g.to e6) (by omega)
      | new n k r =>
        unfold TrAt at ht
        obtain ⟨b, t1, t2⟩ := ht
        have ta := (hid_out t1).2
        have hal' := hal
        unfold AlP at hal'
        obtain ⟨w1, k1, k4, hr'⟩ := hal'
        have hd2 : r.depth ≤ (d : Int) := by
          rw [Pr.depth] at hdep
          omega
        have hs2 : r.size ≤ 400 := by
          rw [Pr.size] at hsiz
          omega
        refine s_if (b := false) (et_is (et_test (ev_op (x := .str "new") (ixk (e1 _ _ ta) rfl rfl) ev_c (rv_eq rfl))) kN_C) (fun z => nomatch z) (fun _ H2 e2 => ?_)
        refine s_if (b := true) (et_is (et_test (ev_op (x := .str "new") (ixk ((e1.trans e2) _ _ ta) rfl rfl) ev_c (rv_eq rfl))) kN_N) (fun _ H3 e3 => ?_) (fun z => nomatch z)
        have g3 := g0.to (e2.trans e3)
        have ta3 := g3.ex _ _ ta
        refine q_appT g3 h0 rfl (es_nw (n := chW n) (k := k) (r := r) (b := b) (ev_cx (ea_cons (ixk ta3 rfl rfl) ea_nil) (fun H4 e4 Q4 q4 E4 => ⟨n, rfl, w1.nm, w1.len, q4⟩)) (ixk ta3 rfl rfl) (ixk ta3 rfl rfl) (hY g3) (t2.ex (eb g3)) (gd_new1 hal)) (by show 0 < 100000; decide) (fun v H4 g4 => ?_)
        have ta4 := g4.ex _ _ ta
        refine q_appT g4 h0 rfl (es_nw (n := n) (k := 5 - k) (r := r) (b := b) (ixk ta4 rfl rfl) (ev_op (x := .int 5) (y := .int k) ev_c (ixk ta4 rfl rfl) rv_I0) (ixk ta4 rfl rfl) (hY g4) (t2.ex (eb g4)) (gd_new2 hal)) (by show 1 < 100000; decide) (fun v H5 g5 => ?_)
        refine s_forChg (F := fun _ => E0) g5 h0 (ixk (g5.ex _ _ ta) rfl rfl) (hX.ex g5.ex) (t2.ex (eb g5)) hr' hd2 hs2 (by rw [Pr.depth] at h20; omega) (by show 2 ≤ 50000; decide) (fun H' xs' a' q' g' ex' tq gq => ?_) (fun H' xs' v4' g' ex' lx => ⟨xs', _, _, _, _, _, rfl, g', ?_⟩)
        · have ta' := g'.ex _ _ ta
          exact es_nw (ixk ta' rfl rfl) (ixk ta' rfl rfl) (ev_var rfl) (hY g') tq (gd_new3 hal gq)
        · rw [Pr.size]
          have : (([] ++ [v] ++ [v] : List V).length : Int) = 2 := rfl
          have e2 : ∀ (x y : V), (([] ++ [x] ++ [y] : List V).length : Int) = 2 := fun _ _ => rfl
          rw [e2] at lx
          omega
      | cond lo ro y n =>
        unfold TrAt at ht
        obtain ⟨b, c, t1, t2, t3⟩ := ht
        have ta := (hid_out t1).2
        have hal' := hal
        unfold AlP at hal'
        obtain ⟨w1, w2, hy, hn⟩ := hal'
        have hdy : y.depth ≤ (d : Int) ∧ n.depth ≤ (d : Int) := by
          rw [Pr.depth] at hdep
          omega
        have py := Pr.size_pos y
        have pn := Pr.size_pos n
        have hsy : y.size ≤ 400 ∧ n.size ≤ 400 := by
          rw [Pr.size] at hsiz
          omega
        obtain ⟨c1, c2⟩ := cho_q w1
        obtain ⟨c3, c4⟩ := cho_q w2
        refine s_if (b := false) (et_is (et_test (ev_op (x := .str "if") (ixk (e1 _ _ ta) rfl rfl) ev_c (rv_eq rfl))) kI_C) (fun z => nomatch z) (fun _ H2 e2 => ?_)
        refine s_if (b := false) (et_is (et_test (ev_op (x := .str "if") (ixk ((e1.trans e2) _ _ ta) rfl rfl) ev_c (rv_eq rfl))) kI_N) (fun z => nomatch z) (fun _ H3 e3 => ?_)
        refine s_if (b := true) (et_is (et_test (ev_op (x := .str "if") (ixk (((e1.trans e2).trans e3) _ _ ta) rfl rfl) ev_c (rv_eq rfl))) kI_I) (fun _ H4 e4 => ?_) (fun z => nomatch z)
        have g4 := g0.to ((e2.trans e3).trans e4)
        have ta4 := g4.ex _ _ ta
        refine q_appT g4 h0 rfl (es_if (l := chO lo) (r := ro) (ev_cx (ea_cons (ixk ta4 rfl rfl) ea_nil) (fun H5 e5 Q4 q4 E4 => ⟨lo, rfl, w1, q4⟩)) (ixk ta4 rfl rfl) (ixk ta4 rfl rfl) (ixk ta4 rfl rfl) (hY g4) (t2.ex (eb g4)) (t3.ex (eb g4)) (gd_if c1 (opd_q w2) (al_q hy) (al_q hn) (Int.le_refl _) (Int.le_refl _) (Int.le_refl _) (Int.le_refl _) (.inl c2))) (by show 0 < 100000; decide) (fun v H5 g5 => ?_)
        have ta5 := g5.ex _ _ ta
        refine q_appT g5 h0 rfl (es_if (l := lo) (r := chO ro) (ixk ta5 rfl rfl) (ev_cx (ea_cons (ixk ta5 rfl rfl) ea_nil) (fun H6 e6 Q4 q4 E4 => ⟨ro, rfl, w2, q4⟩)) (ixk ta5 rfl rfl) (ixk ta5 rfl rfl) (hY g5) (t2.ex (eb g5)) (t3.ex (eb g5)) (gd_if (opd_q w1) c3 (al_q hy) (al_q hn) (Int.le_refl _) (Int.le_refl _) (Int.le_refl _) (Int.le_refl _) (.inr (.inl c4)))) (by show 1 < 100000; decide) (fun v' H6 g6 => ?_)
        refine s_forChg (F := fun _ => E0) (D := { nx := tFor _ _ _ _, rt := _, bk := _, ct := _ }) g6 h0 (ixk (g6.ex _ _ ta) rfl rfl) (hX.ex g6.ex) (t2.ex (eb g6)) hy hdy.1 hsy.1 (by rw [Pr.depth] at h20; omega) (by show 2 ≤ 50000; decide) (fun H' xs' a' q' g' ex' tq gq => ?_) (fun H' xs' v4' g' ex' lx => ?_)
        · have ta' := g'.ex _ _ ta
          exact es_if (ixk ta' rfl rfl) (ixk ta' rfl rfl) (ev_var rfl) (ixk ta' rfl rfl) (hY g') tq (t3.ex (eb g')) (gd_if (opd_q w1) (opd_q w2) gq.al (al_q hn) gq.dep (Int.le_refl _) gq.siz (Int.le_refl _) (.inr (.inr (.inl gq.ne))))
        have e2' : ∀ (x z : V), (([] ++ [x] ++ [z] : List V).length : Int) = 2 := fun _ _ => rfl
        rw [e2'] at lx
        refine s_forChg (F := fun _ => E0) g' h0 (ixk (g'.ex _ _ ta) rfl rfl) (hX.ex g'.ex) (t3.ex (eb g')) hn hdy.2 hsy.2 (by rw [Pr.depth] at h20; omega) (by omega) (fun H'' xs'' a' q' g'' ex'' tq gq => ?_) (fun H'' xs'' v4'' g'' ex'' lx2 => ⟨xs'', _, _, _, _, _, rfl, g'', ?_⟩)
        · have ta' := g''.ex _ _ ta
          exact es_if (ixk ta' rfl rfl) (ixk ta' rfl rfl) (ixk ta' rfl rfl) (ev_var rfl) (hY g'') (t2.ex (eb g'')) tq (gd_if (opd_q w1) (opd_q w2) (al_q hy) gq.al (Int.le_refl _) gq.dep (Int.le_refl _) gq.siz (.inr (.inr (.inr gq.ne))))
        · rw [Pr.size]
          omega
      | call n ops =>
        unfold TrAt at ht
        obtain ⟨u, t1, t2⟩ := ht
        have ta := (hid_out t1).2
        have tu := (hid_out t2).2
        have hal' := hal
        unfold AlP at hal'
        obtain ⟨w1, w4, w3⟩ := hal'
        refine s_if (b := false) (et_is (et_test (ev_op (x := .str "call") (ixk (e1 _ _ ta) rfl rfl) ev_c (rv_eq rfl))) kL_C) (fun z => nomatch z) (fun _ H2 e2 => ?_)
        refine s_if (b := false) (et_is (et_test (ev_op (x := .str "call") (ixk ((e1.trans e2) _ _ ta) rfl rfl) ev_c (rv_eq rfl))) kL_N) (fun z => nomatch z) (fun _ H3 e3 => ?_)
        refine s_if (b := false) (et_is (et_test (ev_op (x := .str "call") (ixk (((e1.trans e2).trans e3) _ _ ta) rfl rfl) ev_c (rv_eq rfl))) kL_I) (fun z => nomatch z) (fun _ H4 e4 => ?_)
        have g4 := g0.to ((e2.trans e3).trans e4)
        have ta4 := g4.ex _ _ ta
        obtain ⟨c1, c2⟩ := chw_q w1.nm
        refine q_appT g4 h0 rfl (es_cl (n := chW n) (ops := ops) (ev_cx (ea_cons (ixk ta4 rfl rfl) ea_nil) (fun H5 e5 Q4 q4 E4 => ⟨n, rfl, w1.nm, w1.len, q4⟩)) (fun H5 e5 Q5 q5 => ixk ((g4.to e5).ex _ _ ta) rfl rfl H5 (Ex.refl H5) _ fun H6 e6 => q5 _ H6 e6 ⟨u, rfl, (eb (g4.to (e5.trans e6))) _ _ t2⟩) (hY g4) (gd_call c1 w4 (fun o ho => opd_q (w3 o ho)) (.inl fun z => by rw [z] at c2; exact w1.n4 c2))) (by show 0 < 100000; decide) (fun v H5 g5 => ?_)
        refine s_forR1 (n := (ops.length : Int)) (ea_cons (ev_is (ev_cb (ea_cons (ixk (g5.ex _ _ ta) rfl rfl) ea_nil) (fun H6 e6 Q' q' => ⟨u, _, rfl, .inl (sq_of ((g5.ex.trans e6) _ _ tu)), q' H6 (Ex.refl H6)⟩)) (by rw [List.length_map])) ea_nil) (by omega)
          (fun i σ' H' => ∃ (xs : List V) (v3 v5 v6 : Option V), σ' = [some (.ref a), some (.ref l), none, v3, none, v5, v6] ∧ GrT X l H H' xs (.call n ops) ∧ xs.length ≤ 1 + 2 * i)
          (fun H6 e6 => ⟨_, _, _, _, rfl, g5.to e6, Nat.le_refl _⟩) (fun i σ' H' hi ⟨xs, v3, v5, v6, hσ, g, lx⟩ => ?_) (fun σ' H' ⟨xs, v3, v5, v6, hσ, g, lx⟩ => ⟨xs, _, _, _, _, _, hσ, g, ?_⟩)
        · subst hσ
          have hi' : i < ops.length := by omega
          have hz : ops[i]? = some ops[i] := List.getElem?_eq_getElem hi'
          generalize ops[i] = o at hz
          have hom := List.mem_of_getElem? hz
          obtain ⟨o1, o2, o3⟩ := ops_ch hz w3
          obtain ⟨r1, r2, r3⟩ := ops_rm hz w3
          have eD : cutV (ops.map Opd.v) (some ((i + 1 : Nat) : Int)) none = (ops.drop (i + 1)).map Opd.v := by rw [cut_dropB, List.map_drop]
          have eT : cutV (ops.map Opd.v) none (some (i : Int)) = (ops.take i).map Opd.v := by rw [cut_takeB, List.map_take]
          have k1 : ∀ {H9 : Hp} {σ9 : L2.St}, σ9[3]? = some (some (.int (i : Int))) → Ev (tOp (rI0 fun i j => .int (i + j)) (tVar 3) (tC (.int 1))) σ9 H9 (.int ((i + 1 : Nat) : Int)) := fun s3 => ev_is (ev_op (x := .int (i : Int)) (ev_var s3) ev_c rv_I0) (congrArg V.int (show (i : Int) + 1 = ((i + 1 : Nat) : Int) by omega))
          refine q_asgL (xs := (ops.drop (i + 1)).map Opd.v) (by
            rw [← eD]
            exact el_sl (K := K) (ixk (g.ex _ _ ta) rfl rfl) (eo_some (k1 rfl)) eo_none (sq_of (g.ex _ _ tu))) (fun b5 H6 hb5 e6 h6 => ?_)
          have g6 := g.to e6
          refine q_asgL (xs := (ops.take i ++ [chO o] ++ ops.drop (i + 1)).map Opd.v) (by
            rw [List.map_append, List.map_append, ← eT]
            exact el_catV (el_cat (el_sl (K := K) (ixk (g6.ex _ _ ta) rfl rfl) eo_none (eo_some (ev_var rfl)) (sq_of (g6.ex _ _ tu))) (el_lst (ea_cons (ev_cx (ea_cons (ev_op (ixk (g6.ex _ _ ta) rfl rfl) (ev_var rfl) (rv_ixL (sq_of (g6.ex _ _ tu)) (atI_nat (by rw [List.getElem?_map, hz]; rfl)))) ea_nil) (fun H7 e7 Q4 q4 E4 => ⟨o, rfl, w3 o hom, q4⟩)) ea_nil) (by show 1 ≤ 100000; decide)) (by rw [eT]; simp only [List.length_map, List.length_take, List.length_cons, List.length_nil]; omega)) (fun H7 e7 => ev_var rfl) h6 (by rw [eT]; simp only [List.length_append, List.length_map, List.length_take, List.length_drop, List.length_cons, List.length_nil]; omega)) (fun b6 H7 hb6 e7 h7 => ?_)
          have g7 := g6.to e7
          refine q_appT g7 h0 rfl (es_cl (ixk (g7.ex _ _ ta) rfl rfl) (fun H8 e8 Q8 q8 => ⟨_, rfl, q8 _ H8 (Ex.refl H8) ⟨b6, rfl, hid_in ((hY (g7.to e8)) |> fun _ => (hY g6).new hb6) (e8 _ _ h7)⟩⟩) (hY g7) (gd_call w1.q (by omega) o1 (.inr o2))) (by omega) (fun v H8 g8 => ?_)
          refine s_appT g8 h0 rfl (es_cl (ops := ops.take i ++ ops.drop (i + 1)) (ixk (g8.ex _ _ ta) rfl rfl) (el_hidO (hY g8) (by
            rw [List.map_append, ← eT, ← eD]
            exact el_cat (el_sl (K := K) (ixk (g8.ex _ _ ta) rfl rfl) eo_none (eo_some (ev_var rfl)) (sq_of (g8.ex _ _ tu))) (el_sl (K := K) (ixk (g8.ex _ _ ta) rfl rfl) (eo_some (k1 rfl)) eo_none (sq_of (g8.ex _ _ tu))) (by rw [eT, eD]; simp only [List.length_map, List.length_take, List.length_drop]; omega))) (hY g8) (gd_call w1.q (by omega) r1 (.inr r2))) (by rw [List.length_append]; show xs.length + 1 < 100000; omega) (fun v' H9 g9 => ⟨_, _, _, _, rfl, g9, by rw [List.length_append, List.length_append]; show xs.length + 1 + 1 ≤ 1 + 2 * (i + 1); omega⟩)
        · rw [Pr.size]
          have : ((ops.length : Int)).toNat = ops.length := by omega
          omega
end
end Fs

set_option Elab.async false
set_option linter.all false
set_option maxRecDepth 100000
set_option maxHeartbeats 4000000
/-! lists made of new things, over a list -/
namespace FsW
open PySem L2 Evl FsE FsC FsR FsK
/-- a new list, with a word of its items -/
def EvLW (te : TE) (σ : L2.St) (H : Hp) (Pv : List V → Hp → Prop) : Prop := ∀ H1, Ex H H1 → ∀ Q : VK, (∀ p H2 ys, H1 p = none → Ex H1 H2 → H2 p = some (.lst ys) → Pv ys H2 → Q (.ref p) H2) → te σ H1 Q
def CwW {α : Type} (R : Hp → V → α → Prop) (H1 : Hp) (ns : List α) (Dl : Addr) (i : Nat) (H' : Hp) : Prop := H1 Dl = none ∧ Ex H1 H' ∧ ∃ ys, H' Dl = some (.lst ys) ∧ LsA R H' ys (ns.take i)
section
variable {α : Type} {R : Hp → V → α → Prop} {σ : L2.St} {H : Hp} {te tl ta tb tc td : TE} {K : PySem.W.Frag}
theorem cwW_turn {H1 H' : Hp} {ns : List α} {Dl : Addr} {i : Nat} {σ2 : L2.St} {n : α} (kp : ∀ H H' v x, ExN H H' → R H v x → R H' v x) (p : CwW R H1 ns Dl i H') (hi : i < 50000) (hn : ns[i]? = some n) (he : EvS te σ2 H1 (fun v H2 => R H2 v n)) :
    tYes σ2 H' fun b H3 => if b = true then te σ2 H3 fun y H4 => ∃ acc, H4 Dl = some (.lst acc) ∧ acc.length < sizeLine ∧ CwW R H1 ns Dl (i + 1) (upd H4 Dl (.lst (acc ++ [y]))) else CwW R H1 ns Dl (i + 1) H3 := by
  obtain ⟨p1, p2, ys, p3, p4⟩ := p
  show te σ2 H' fun y H4 => ∃ acc, H4 Dl = some (.lst acc) ∧ acc.length < sizeLine ∧ CwW R H1 ns Dl (i + 1) (upd H4 Dl (.lst (acc ++ [y])))
  refine he H' p2 _ fun y H4 e4 hy => ?_
  have h4 := e4 _ _ p3
  have hl := p4.length
  rw [List.length_take] at hl
  refine ⟨ys, h4, sz_lt (by omega), p1, Ex.mut (p2.trans e4) p1, ys ++ [y], upd_same, ?_⟩
  rw [List.take_add_one, hn]
  exact LsA.snoc (p4.imp fun _ _ z => kp _ _ _ _ ((ExN.of e4).trans (ExN.upd h4)) z) (kp _ _ _ _ (ExN.upd h4) hy)
/-- [e for x in (a list)], e new -/
theorem elw_L {a : Addr} {xs : List V} {j : Nat} {vs : List Nat} (ns : List α) (kp : ∀ H H' v x, ExN H H' → R H v x → R H' v x) (h : Ev tl σ H (.ref a)) (hx : SqL K H a xs) (hz : xs.length ≤ 40000) (hw : ∀ x, wipe ((wipe σ vs).set j (some x)) vs = wipe σ vs) (hl : ns.length = xs.length)
    (he : ∀ (i : Nat) (x : V) (n : α) H1, Ex H H1 → xs[i]? = some x → ns[i]? = some n → EvS te ((wipe σ vs).set j (some x)) H1 (fun v H2 => R H2 v n)) :
    EvLW (tLc (iList K tl) (gName j) tYes te vs) σ H (fun ys H' => LsA R H' ys ns) := fun H0 e Q q => h H0 e _ fun H1 e1 => ⟨a, rfl, ⟨xs, ex_l (e.trans e1) hx⟩, fun Dl hD =>
  lc_list (xs := xs) (CwW R H1 ns Dl) ⟨hD, Ex.new hD, [], upd_same, by rw [List.take_zero]; trivial⟩ (fun i H' _ p => ex_l ((e.trans e1).trans p.2.1) hx) (fun i x H' hi p => by
    have hi1 := (List.getElem?_eq_some_iff.mp hi).1
    have hn : ns[i]? = some ns[i] := List.getElem?_eq_getElem (by omega)
    exact ⟨hw x, cwW_turn kp p (by omega) hn (he i x _ H1 (e.trans e1) hi hn)⟩)
    (fun H' p => by
      obtain ⟨p1, p2, ys, p3, p4⟩ := p
      rw [List.take_of_length_le (by omega)] at p4
      exact q Dl H' ys (fresh_back e1 p1) (e1.trans p2) p3 p4)⟩
/-- x = (a new list) -/
theorem q_asgLW {i : Nat} {tz : TS} {D : Ends} {Pv : List V → Hp → Prop} (h : EvLW te σ H Pv) (k : ∀ p H1 ys, H p = none → Ex H H1 → H1 p = some (.lst ys) → Pv ys H1 → tz D (σ.set i (some (.ref p))) H1) : tSeq (tAsg te (gName i)) tz D σ H := h H (Ex.refl H) _ fun p H1 ys hp e h1 hk => k p H1 ys hp e h1 hk
end
end FsW

set_option Elab.async false
set_option linter.all false
set_option maxRecDepth 100000
set_option maxHeartbeats 2000000
/-! a == b of instances of one own class, both answers; a op i, i an int. -/
namespace FsR
open PySem PySem.Spec PyProof.Rows L2 Evl
structure EqM (K : PySem.W.Frag) (C : Addr) (g : Addr) : Prop where
  at_ : PySem.W.findIn K (.ref C) "__eq__" = some (some (.ref g))
  fn : PySem.W.isFn K (.ref g) = true
/-- a == b -/
def rOwnEq (C : Addr) (sp : Sp) (E : XK) : R2 := fun x y H Q => ∃ (a b dx dy : Addr) (fs gs : List (Str × V)), x = .ref a ∧ y = .ref b ∧ H a = some (.ins C dx fs) ∧ H b = some (.ins C dy gs) ∧ sp [.ref a, .ref b] H Q E
theorem op_ownEq {X : Cx} {CX : CXT} {k : Nat} {C g : Addr} {fd : FuncData} {ps : List Str} {sp : Sp} {E : XK} (M : EqM X.K C g) (F : FnOk X.prog X.w X.K X.mg X.base CX k g fd ps sp) (hr : Room k X.A) (hd : Binds X.K fd ps []) (hx : ∀ σ, PassesAt CX X σ E) : OpR X (compareOp .Eq) (rOwnEq C sp E) := by
  intro pins s σ H x y v u Q I rx ry h
  obtain ⟨a, b, dx, dy, fs, gs, rfl, rfl, h1, h2, q⟩ := h
  obtain rfl : v = Value.ref a := rx
  obtain rfl : u = Value.ref b := ry
  obtain ⟨_, O1, _, _, _, _⟩ := ins_get I.hok h1
  obtain ⟨_, O2, _, _, _, _⟩ := ins_get I.hok h2
  obtain ⟨_, i1, _⟩ := O1.look
  obtain ⟨_, i2, _⟩ := O2.look
  obtain ⟨m, fr⟩ := I.fr
  show wpAny _ _ (richCompare .Eq _ _) _ _ _
  refine PySem.W.cmp_K (op := .Eq) (tb := .ref C) hr.units0 fr I.ok.mod.kin i1 i2.type (by unfold PySem.W.notFirst; rw [beq_self_eq_true, Bool.true_or]) M.at_ M.fn ?_
  refine wpAny_mono (run_fnS (E := fun _ => E) (us := [.ref a, .ref b]) (vs := [.ref a, .ref b]) F hr hd (hx σ) I (.cons rfl (.cons rfl .nil)) q) (fun w s' hw => ?_) fun _ _ z => z
  obtain ⟨y, H', J, r, q'⟩ := hw
  have fin : EP X pins σ Q w s' := ⟨y, H', J, r, q'⟩
  cases w with
  | notImplemented => exact no_notimpl r
  | _ => exact fin
structure OpI (K : PySem.W.Frag) (C : Addr) (op : Operator) (g : Addr) : Prop where
  fst : PySem.W.selfFirst K C = true
  at_ : PySem.W.findIn K (.ref C) (PySem.dunder op.info.2) = some (some (.ref g))
  fn : PySem.W.isFn K (.ref g) = true
  rv : PySem.W.findIn K (.ref C) (dunderR op.info.2) = some none
  h1 : ∃ fo, PySem.W.findIn K (.type "int") (PySem.dunder op.info.2) = some fo
  h2 : ∃ ro, PySem.W.findIn K (.type "int") (dunderR op.info.2) = some ro
  sub : PySem.W.subIn K (.type "int") (.ref C) = some false
/-- a op i -/
def tOwnI (C : Addr) (sp : Sp) (E : L2.St → XK) (ta tb : TE) : TE := fun σ H Q => ta σ H fun x H1 => tb σ H1 fun y H2 => ∃ (a dx : Addr) (fs : List (Str × V)) (i : Int), x = .ref a ∧ y = .int i ∧ H2 a = some (.ins C dx fs) ∧ sp [.ref a, .int i] H2 Q (E σ)
theorem pe_ownI {X : Cx} {CX : CXT} {k : Nat} {C g : Addr} {fd : FuncData} {ps : List Str} {sp : Sp} {E : L2.St → XK} {ea eb : Expr} {op : Operator} {pos : Pos} {ta tb : TE} (ha : PE X ea ta) (hb : PE X eb tb) (M : OpI X.K C op g) (F : FnOk X.prog X.w X.K X.mg X.base CX k g fd ps sp) (hr : Room k X.A) (hd : Binds X.K fd ps [])
    (hx : ∀ σ, PassesAt CX X σ (E σ)) : PE X (.BinOp ea op eb pos) (tOwnI C sp E ta tb) := by
  refine ⟨fun pins s σ H Q I h => wpAny_BinOp (binT ha hb I h fun v u s2 x y H2 I2 rx ry q => ?_)⟩
  obtain ⟨a, dx, fs, i, rfl, rfl, h1, q⟩ := q
  obtain rfl : v = Value.ref a := rx
  obtain ⟨t, rfl⟩ := ry
  obtain ⟨_, O1, _, _, _, _⟩ := ins_get I2.hok h1
  obtain ⟨_, i1, _⟩ := O1.look
  obtain ⟨m, fr⟩ := I2.fr
  obtain ⟨fo, hfo⟩ := M.h1
  obtain ⟨ro, hro⟩ := M.h2
  refine PySem.W.ksp_binT fr I2.ok.mod.kin i1 (T := "int") rfl M.fst M.at_ M.fn M.rv (.inl rfl) hfo hro M.sub (wpAny_mono (run_fnS (us := [.ref a, .int i t]) (vs := [.ref a, .int i]) F hr hd (hx σ) I2 (.cons rfl (.cons ⟨t, rfl⟩ .nil)) q) (fun w s' hw => ?_) fun _ _ z => z)
  obtain ⟨y, H', J, r, q'⟩ := hw
  have fin : EP X pins σ Q w s' := ⟨y, H', J, r, q'⟩
  cases w with
  | notImplemented => exact no_notimpl r
  | _ => exact fin
end FsR

set_option Elab.async false
set_option linter.all false
set_option maxRecDepth 100000
set_option maxHeartbeats 4000000
/-! a != b of instances of one own class that has __eq__ and no __ne__ of its own. -/
namespace FsR
open PySem PySem.W PySem.Spec PyProof.Rows L2 Evl FsQ
theorem ne_bind (self : Value) : bindSpecial (.builtin "object.__ne__") self = pure (.builtin "object.__ne__", [self]) := PySem.F.cmp_object.ne.bind self
section
variable {prog : Program} {w : World} {A : Around} {E : Value → Shared → Prop} {K : Frag} {s : Shared} {x y C f : Addr} {ox : Obj} {od : Option Obj} {tb : Value}
theorem objNe_K (X : K.In s.heap) (I : InstAt s.heap x ox C od) (hs : findIn K (.ref C) "__eq__" = some (some (.ref f))) (hf : isFn K (.ref f) = true) (hu : A.units < cLine) {Q : Fin → Shared → Prop}
    (hcall : wpAny (model prog w) A (call (.ref f) [.ref x, .ref y]) (fun v s' => ∃ b, v = .bool b ∧ Q (.done (.ret (.bool (!b)))) s') E s) :
    wpAny (model prog w) A (Builtin.«object.__ne__» ⟨[.ref x, .ref y], []⟩) Q E s := by
  unfold Builtin.«object.__ne__»
  repeat (first
    | with_reducible refine wpAny_cRoomFor hu ?_
    | (refine wpAny_bind (m := callSpecialIfBound? (.ref x) (Str.ofString "__eq__") [.ref y])
        (ifBound_K X I hs hf (wpAny_mono hcall (fun r s' hr => by
          obtain ⟨b, rfl, hq⟩ := hr
          repeat (first | exact hq | exact wpAny_pure hq | exact wpAny_truthy_bool hq | (refine wpAny_bind (m := truthy (.bool _)) (wpAny_truthy_bool ?_)) | wp_step)) fun _ _ e => e)))
    | wp_step)
theorem tryNe_K (X : K.In s.heap) (I : InstAt s.heap x ox C od) (hs : findIn K (.ref C) "__eq__" = some (some (.ref f))) (hf : isFn K (.ref f) = true) (hn : findIn K (.ref C) "__ne__" = some (some (.builtin "object.__ne__"))) (ho : subIn K (.ref C) (.type "object") = some true)
    (hu : A.units + 1 < cLine) {Q : Option Value → Shared → Prop} (hcall : wpAny (model prog w) A.in1 (call (.ref f) [.ref x, .ref y]) (fun v s' => ∃ b, v = .bool b ∧ Q (some (.bool (!b))) s') E s) :
    wpAny (model prog w) A (tryCompare (.ref x) "__ne__" (.ref y)) Q E s := by
  have fin : wpAny (model prog w) A (call (.builtin "object.__ne__") ([.ref x] ++ [.ref y]) >>= fun v => pure (some v)) (fun r s' => ∃ b, r = some (.bool (!b)) ∧ Q (some (.bool (!b))) s') E s := by
    refine wpAny_bind (wpAny_call (codeAny_call_builtin PySem.F.cmp_object.ne.plain PySem.F.cmpEntry_ne (check_slot PySem.F.cmpKind_ne PySem.F.cmpSplit_ne (I.type.andThen (looks_subIn X ho)) (PySem.F.cmpArgs_ne _ _)
      (objNe_K (A := A.in1) X I hs hf hu (wpAny_mono hcall (fun v s' hv => ?_) fun _ _ e => e)))))
    obtain ⟨b, rfl, hq⟩ := hv
    first | exact ⟨b, rfl, wpAny_pure ⟨b, rfl, hq⟩⟩ | exact ⟨b, rfl, wpAny_pure (wpAny_pure ⟨b, rfl, hq⟩)⟩ | exact ⟨b, rfl, ⟨b, rfl, hq⟩⟩
  simp only [tryCompare]
  refine wpAny_bind ?_
  simp only [callSpecialIfBound?, bindSpecialIfBound?]
  refine wpAny_holding (wpAny_bind (wpAny_bind (wpAny_bind (I.type.here ((looks_findIn X hn).here ?_)))))
  simp only [ne_bind]
  refine wpAny_bind (wpAny_askSetting (wpAny_ite ?_))
  have fin2 := wpAny_mono fin (Q' := fun r s' => wpAny (model prog w) A (match r with | some .notImplemented | none => pure none | some v => pure (some v)) Q E s') (fun r s' z => by
    obtain ⟨b, rfl, hq⟩ := z
    exact wpAny_pure hq) fun _ _ e => e
  split
  · exact wpAny_bind (wpAny_pure (wpAny_pure fin2))
  · exact wpAny_tryCatch (wpAny_bind (wpAny_pure (wpAny_pure fin2)))
theorem richNe_K (X : K.In s.heap) (I : InstAt s.heap x ox C od) (hy : Looks (model prog w) s.heap (typeOf (.ref y)) (.ref C)) (hs : findIn K (.ref C) "__eq__" = some (some (.ref f))) (hf : isFn K (.ref f) = true) (hn : findIn K (.ref C) "__ne__" = some (some (.builtin "object.__ne__"))) (ho : subIn K (.ref C) (.type "object") = some true)
    (hu : A.units + 1 < cLine) {Q : Value → Shared → Prop} (hcall : wpAny (model prog w) A.in1 (call (.ref f) [.ref x, .ref y]) (fun v s' => ∃ b, v = .bool b ∧ Q (.bool (!b)) s') E s) :
    wpAny (model prog w) A (richCompare .NotEq (.ref x) (.ref y)) Q E s := by
  unfold richCompare
  simp only [oneThing_ref]
  refine wpAny_holding ?_
  refine wpAny_bind (wpAny_cRoomFor (Nat.lt_of_succ_lt hu) ?_)
  rw [cmpInfo_NotEq]
  dsimp only
  refine wpAny_bind (I.type.here (wpAny_bind (hy.here ?_)))
  rw [show (Value.ref C != Value.ref C) = false from by simp]
  simp only [Bool.false_eq_true, if_false]
  refine wpAny_bind (wpAny_pure ?_)
  simp only [Bool.false_eq_true, if_false]
  refine wpAny_bind (tryNe_K X I hs hf hn ho hu (wpAny_mono hcall (fun v s' hv => ?_) fun _ _ e => e))
  obtain ⟨b, rfl, hq⟩ := hv
  first | exact ⟨b, rfl, wpAny_pure hq⟩ | exact ⟨b, rfl, wpAny_pure (wpAny_pure hq)⟩
end
structure NeM (K : PySem.W.Frag) (C : Addr) (g : Addr) : Prop extends EqM K C g where
  ne : PySem.W.findIn K (.ref C) "__ne__" = some (some (.builtin "object.__ne__"))
  ob : PySem.W.subIn K (.ref C) (.type "object") = some true
/-- x != y -/
def rNeB (D : Cmp) : R2 := fun x y H Q => ∃ b, D x y b H ∧ ∀ H', Ext H H' → Q (.bl (!b)) H'
theorem op_neB {X : Cx} {n : Nat} {CX : CXT} {C f : Addr} {fd : FuncData} {ps : List Str} {R : Addr → Addr → Bool → Hp → Prop} {E : XK} (M : NeM X.K C f) (F : FnOk X.prog X.w X.K X.mg X.base CX n f fd ps (spEqB R)) (hr : Room (n + 1) X.A) (hb : Binds X.K fd ps []) (hx : Passes CX X E) :
    OpR X (compareOp .NotEq) (rNeB (CIns C R)) := by
  intro pins s σ H x y v u Q I rx ry ⟨b, d, q⟩
  obtain ⟨a, c, dx, dy, fs, gs, ex, ey, ha, hc, hr'⟩ := d
  subst ex ey
  cases rx
  cases ry
  obtain ⟨_, J, _⟩ := ins_get I.hok ha
  obtain ⟨_, J', _⟩ := ins_get I.hok hc
  obtain ⟨_, J, _⟩ := J.look
  obtain ⟨_, J', _⟩ := J'.look
  have sb : Sub X n X.A.in1 := (Sub.in1 (n := n) ⟨hr, rfl⟩)
  show wpAny _ _ (richCompare .NotEq _ _) _ _ _
  refine richNe_K I.kIn J J'.type M.at_ M.fn M.ne M.ob (by have := hr.units; omega) ?_
  have sp : spEqB R [.ref a, .ref c] H (fun v H' => v = .bl b ∧ Ext H H') E := ⟨a, c, b, rfl, hr', fun H' e => ⟨rfl, e⟩⟩
  have e0 := I.env0
  have e1 : Env0 X.prog X.w X.K X.mg X.base X.A.in1 X.stack s H := ⟨sb.fr.trans e0.frames, e0.mod, e0.bs, e0.bsz, e0.funs, e0.frf, e0.hok, e0.bare⟩
  have two : [Value.ref a, Value.ref c].length = ps.length := F.len _ _ _ _ sp
  have bnd := hb s [.ref a, .ref c] I.kIn (by rw [List.append_nil]; exact two)
  rw [List.append_nil] at bnd
  refine wpAny_call (codeAny_mono (F.run X.A.in1 X.stack s H ⟨[.ref a, .ref c], []⟩ [.ref a, .ref c] [.ref a, .ref c] _ E sb.room e1 bnd (.cons rfl (.cons rfl .nil)) sp) fun r s' hq => ?_)
  cases r with
  | error z => exact hx pins σ H s z s' I hq
  | ok fl =>
    cases fl with
    | ret t =>
      obtain ⟨z, H', I', rz, ez, ext⟩ := I.after hq
      subst ez
      cases rz
      exact ⟨b, rfl, .bl (!b), H', I', rfl, q H' ext⟩
    | next => exact False.elim hq
    | brk => exact False.elim hq
    | cont => exact False.elim hq
end FsR

set_option Elab.async false
set_option linter.all false
set_option maxRecDepth 100000
set_option maxHeartbeats 8000000
/-! the law -/
namespace Fs
open PySem L2 Evl FsE FsC FsR FsT FsK FsQ
open FsW (EvLW elw_L q_asgLW)
section
variable {σ : L2.St} {H : Hp} {ta tb t1 te tl t6 : TE} {tA : TA} {tz tu : TS} {D : Ends} {K : PySem.W.Frag} {C : Addr} {E : L2.St → XK}
/-- a list of new things, apart from the list -/
def CwH (R : Addr → Hp → V → Prop) (H1 : Hp) (Dl : Addr) (i : Nat) (H' : Hp) : Prop := H1 Dl = none ∧ Ex H1 H' ∧ ∃ ys : List V, H' Dl = some (.lst ys) ∧ ys.length = i ∧ ∀ y ∈ ys, R Dl H' y
theorem q_asgH {R : Addr → Hp → V → Prop} {i j : Nat} {vs : List Nat} {n : Int} (kx : ∀ Dl H H' y, Ex H H' → R Dl H y → R Dl H' y) (ku : ∀ Dl H o xs y, H Dl = some (.lst xs) → R Dl H y → R Dl (upd H Dl o) y) (h : EvA tA σ H [.int n]) (hn : 0 ≤ n ∧ n ≤ 40000) (hw : ∀ x, wipe ((wipe σ vs).set j (some x)) vs = wipe σ vs)
    (he : ∀ (i : Nat) Dl acc H1, Ex H H1 → H1 Dl = some (.lst acc) → (i : Int) < n → EvS te ((wipe σ vs).set j (some (.int (i : Int)))) H1 (fun v H2 => R Dl H2 v))
    (k : ∀ p H1 ys, H p = none → Ex H H1 → H1 p = some (.lst ys) → ys.length = n.toNat → (∀ y ∈ ys, R p H1 y) → tz D (σ.set i (some (.ref p))) H1) :
    tSeq (tAsg (tLc (iRng1 tA) (gName j) tYes te vs) (gName i)) tz D σ H := h H (Ex.refl H) _ fun H1 e1 => ⟨n, rfl, by omega, by omega, fun Dl hD =>
  lc_range (lo := 0) (n := n.toNat) (CwH R H1 Dl) ⟨hD, Ex.new hD, [], upd_same, rfl, fun y hy => nomatch hy⟩ (fun i H' hi p => by
    have e0 : (0 : Int) + (i : Int) = (i : Int) := Int.zero_add _
    show wipe ((wipe σ vs).set j (some (.int ((0 : Int) + (i : Int))))) vs = wipe σ vs ∧ te ((wipe σ vs).set j (some (.int ((0 : Int) + (i : Int))))) H' fun y H4 => ∃ acc, H4 Dl = some (.lst acc) ∧ acc.length < sizeLine ∧ CwH R H1 Dl (i + 1) (upd H4 Dl (.lst (acc ++ [y])))
    rw [e0]
    obtain ⟨p1, p2, ys, p3, p4, p5⟩ := p
    refine ⟨hw _, he i Dl ys H' (e1.trans p2) p3 (by omega) H' (Ex.refl H') _ fun y H4 e4 hy => ?_⟩
    have h4 := e4 _ _ p3
    refine ⟨ys, h4, sz_lt (by omega), p1, Ex.mut (p2.trans e4) p1, ys ++ [y], upd_same, by rw [List.length_append, p4]; rfl, fun z hz => ?_⟩
    rcases List.mem_append.mp hz with hz | hz
    · exact ku _ _ _ _ _ h4 (kx _ _ _ _ e4 (p5 z hz))
    · rw [List.mem_singleton.mp hz]
      exact ku _ _ _ _ _ h4 hy) (fun H' p => by
    obtain ⟨p1, p2, ys, p3, p4, p5⟩ := p
    exact k Dl H' ys (fresh_back e1 p1) (e1.trans p2) p3 p4 p5)⟩
/-- a term at v, apart from Dl -/
def NoA : Addr → Prop := fun _ => False
def TmD (Dl : Addr) (H : Hp) (v : V) : Prop := ∃ a p, v = .ref a ∧ TrAt (hid (plus NoA Dl) H) a p ∧ TrOk 3 p
theorem TmD.ex (Dl : Addr) (H H' : Hp) (y : V) (e : Ex H H') (h : TmD Dl H y) : TmD Dl H' y := by
  obtain ⟨a, p, h1, h2, h3⟩ := h
  exact ⟨a, p, h1, h2.ex (Ex.hid e), h3⟩
theorem TmD.updD (Dl : Addr) (H : Hp) (o : HO) (xs : List V) (y : V) (hd : H Dl = some (.lst xs)) (h : TmD Dl H y) : TmD Dl (upd H Dl o) y := by
  obtain ⟨a, p, h1, h2, h3⟩ := h
  exact ⟨a, p, h1, h2.ex ex_updp, h3⟩
theorem nw_plus {H H' : Hp} {l : Addr} {o : HO} (h : H l = some o) : Ex (Nw H H') (hid (plus NoA l) H') := fun a o' g => by
  obtain ⟨g1, g2⟩ := nw_out g
  refine hid_in (fun z => ?_) g2
  rcases z with z | rfl
  · exact z
  · rw [h] at g1
    cases g1
theorem hid_noA {H : Hp} : Ex H (hid NoA H) := fun a o h => hid_in (fun z => z) h
/-- what is made of a term -/
theorem es_made {d : Nat} {a : Addr} {p : Pr} (h : Ev ta σ H (.ref a)) (ht : TrAt H a p) (hq : AlQ p) (hd : p.depth ≤ (d : Int)) (h20 : d ≤ 20) (hs : p.size ≤ 400) : EvS (tCallS (spMade C d) E (tCons ta tNil)) σ H (fun v H' => ∃ c, v = .ref c ∧ PrAt C H' c p) := fun H1 e1 Q q =>
  h H1 e1 _ fun H2 e2 => ⟨a, p, rfl, ht.ex (e1.trans e2), hq, hd, h20, hs, fun c H3 _ e3 hc => q (.ref c) H3 (e2.trans e3) ⟨c, rfl, hc⟩⟩
theorem cins {d : Nat} {a b : Addr} {p q : Pr} (ha : PrAt C H a p) (hb : PrAt C H b q) (hd : p.depth ≤ (d : Int)) : CIns C (RPrB C d) (.ref a) (.ref b) (same p q) H := by
  obtain ⟨t, xs, ⟨dx, h1⟩, _⟩ := ha.out
  obtain ⟨t', ys, ⟨dy, h2⟩, _⟩ := hb.out
  exact ⟨a, b, dx, dy, _, _, rfl, rfl, h1, h2, p, q, hd, ha, hb, rfl⟩
theorem ev_prEq {d : Nat} {a b : Addr} {p q : Pr} {x : Bool} (h1 : Ev ta σ H (.ref a)) (h2 : Ev tb σ H (.ref b)) (ha : PrAt C H a p) (hb : PrAt C H b q) (hd : p.depth ≤ (d : Int)) (hx : same p q = x) : Ev (tOp (rEqB (CIns C (RPrB C d))) ta tb) σ H (.bl x) := fun H1 e1 Q k =>
  h1 H1 e1 _ fun H2 e2 => h2 H2 (e1.trans e2) _ fun H3 e3 => ⟨same p q, cins (ha.ex ((e1.trans e2).trans e3)) (hb.ex ((e1.trans e2).trans e3)) hd, fun H4 e4 => by rw [hx]; exact k H4 ((e2.trans e3).trans e4)⟩
theorem ev_prNe {d : Nat} {a b : Addr} {p q : Pr} {x : Bool} (h1 : Ev ta σ H (.ref a)) (h2 : Ev tb σ H (.ref b)) (ha : PrAt C H a p) (hb : PrAt C H b q) (hd : p.depth ≤ (d : Int)) (hx : (!same p q) = x) : Ev (tOp (rNeB (CIns C (RPrB C d))) ta tb) σ H (.bl x) := fun H1 e1 Q k =>
  h1 H1 e1 _ fun H2 e2 => h2 H2 (e1.trans e2) _ fun H3 e3 => ⟨same p q, cins (ha.ex ((e1.trans e2).trans e3)) (hb.ex ((e1.trans e2).trans e3)) hd, fun H4 e4 => by rw [hx]; exact k H4 ((e2.trans e3).trans e4)⟩
theorem same_no {α : Type} {x y : α} (h : x ≠ y) : same x y = false := by
  cases hs : same x y with
  | false => rfl
  | true => exact absurd (same_iff.mp hs) h
theorem ev_tmEq {a b : Addr} {p q : Pr} (h1 : Ev ta σ H (.ref a)) (h2 : Ev tb σ H (.ref b)) (ha : TrAt H a p) (hb : TrAt H b q) (op : AlQ p) (oq : AlQ q) (dp : p.depth ≤ 20) (dq : q.depth ≤ 20) : Ev (tOp (rEqD K) ta tb) σ H (.bl (same p q)) := fun H1 e1 Q k =>
  h1 H1 e1 _ fun H2 e2 => h2 H2 (e1.trans e2) _ fun H3 e3 => ⟨tmD p, tmD q, dp_tm (ha.ex ((e1.trans e2).trans e3)), dp_tm (hb.ex ((e1.trans e2).trans e3)), sh_tm op dp, sh_tm oq dq, by
    rw [show PyData.eqv (tmD p) (tmD q) = same p q from same_is (eqv_tm p q)]
    exact k H3 (e2.trans e3)⟩
/-- for each that was changed -/
theorem q_forChg {d : Nat} {j : Nat} {b : Addr} {r : Pr} (h : Ev t6 σ H (.ref b)) (hb : TrAt H b r) (hal : AlP r) (hd : r.depth ≤ (d : Int)) (hs : r.size ≤ 400) (h20 : r.depth ≤ 20) (S : L2.St → Prop) (hS : S σ)
    (step : ∀ H2 H' a' q' σ', S σ' → Ex H H2 → Ex H2 H' → TrAt H' a' q' → Gd r q' → tu { D with nx := fun σ'' H'' => S σ'' ∧ Ex H2 H'', ct := fun σ'' H'' => S σ'' ∧ Ex H2 H'', bk := tz D } (σ'.set j (some (.ref a'))) H')
    (done : ∀ σ' H', S σ' → Ex H H' → tz D σ' H') : tSeq (tFor (iList K (tCallS (spChg d) E (tCons t6 tNil))) (gName j) tu) tz D σ H := by
  refine h H (Ex.refl H) _ fun H1 e1 => ⟨NoA, b, r, rfl, fun x hx => hx.elim, (hb.ex e1).ex hid_noA, hal, hd, hs, h20, fun l xs H2 hl e2 h2 hx hn => ⟨l, rfl, ⟨xs, sq_of h2⟩, for_list (D := { D with nx := tz D }) (fun _ σ' H' => S σ' ∧ Ex H2 H') ⟨hS, Ex.refl H2⟩ (fun _ _ _ _ z => sq_of (z.2 _ _ h2)) (fun i x σ' H' hi z => ?_) (fun σ' H' z => done σ' H' z.1 ((e1.trans e2).trans z.2))⟩⟩
  obtain ⟨a', q', rfl, g1, g2⟩ := hx x (List.mem_of_getElem? hi)
  exact step H2 H' a' q' σ' z.1 (e1.trans e2) z.2 ((g1.ex hid_ex).ex z.2) g2
end
section
variable {P : Program} {w : World} {K : PySem.W.Frag} {mg : Str → Option Value} {base : Heap} {C CB : Addr}
def PrV (C : Addr) (H : Hp) (v : V) (p : Pr) : Prop := ∃ c, v = .ref c ∧ PrAt C H c p
abbrev nsLaw9 : List Str := ["_law_script", "_law_terms", "_law_k", "_law_made_here", "_law_term_here", "_law_again", "_law_one", "_law_other"]
theorem scLaw9 : FnScope nsLaw9 ["_law_script"] (defScope (topS 44)) := ⟨rfl, rfl, rfl, by decide +kernel, rfl, by decide +kernel, by decide +kernel⟩
abbrev tTm (K : PySem.W.Frag) : TE := tCallS (spTerm 3) (fun _ => E0) (tCons (tCallS spRow (fun _ => E0) (tCons (tCallS (spCellAt K) (fun _ => E0) (tCons (tVar 0) (tCons (tVar 2) tNil))) (tCons (tC (.int 63)) tNil))) (tCons (tC (.int 0)) tNil))
theorem ok_law {f fq : Addr} {fd fdq : FuncData} {k : Nat} (hk : 12 ≤ k) (F : Fun K "law" "law" (topS 44) f fd) (L : LawT K mg)
    (GC : CalX P w K mg base CX0 1 "_law_cell_at" (spCellAt K)) (GR : CalX P w K mg base CX0 2 "_law_row" spRow) (GT : CalX P w K mg base CX0 7 "_law_term" (spTerm 3)) (GM : CalX P w K mg base CX0 9 "_law_made" (spMade C 3)) (GX : CalX P w K mg base CX0 9 "_law_changed" (spChg 3))
    (NM : NeM K C fq) (FQ : FnOk P w K mg base CX0 11 fq fdq ["self", "other"] (spEqB (RPrB C 3))) (BQ : Binds K fdq ["self", "other"] []) : FnOk P w K mg base CX0 (k + 1) f fd ["_law_script"] (spLaw K) := by
  refine F.ok scLaw9 (fun vs H Q E h => ?_) (fun cdv A outer s H vs Q E hr h => ?_)
  · obtain ⟨a, ns, rfl, _⟩ := h
    rfl
  · obtain ⟨a, sn, rfl, hS, q⟩ := h
    refine ⟨_, pss_cons (ps_setLc (i := 1) (own := [("_law_k", 2)]) (g := gName 2) (tt := tYes) (te := tTm K) rfl scLaw9.nd rfl rfl (sw_true rfl rfl rfl (by decide +kernel)) (pi_range1 rfl L.range (pa_cons pe_int pa_nil)) (blkOk_by (own := [("_law_k", 2)]) (N := nsLaw9) (sc := defScope (topS 44)) (by decide +kernel))
          (fun _ _ _ _ _ => pg_name (i := 2) scLaw9.nd rfl (Or.inl rfl)) (fun _ _ _ _ _ => pts_nil)
          (fun _ _ _ _ _ => pe_cx (E := fun _ => E0) GT hr (by omega) (by rfl) at0 (pa_cons (pe_cx (E := fun _ => E0) GR hr (by omega) (by rfl) at0 (pa_cons (pe_cx (E := fun _ => E0) GC hr (by omega) (by rfl) at0 (pa_cons (pv 0) (pa_cons (pv 2) pa_nil))) (pa_cons pe_int pa_nil))) (pa_cons pe_int pa_nil))))
      (pss_cons (ps_setLc (i := 3) (own := [("_law_term_here", 4)]) (g := gName 4) (tt := tYes) (te := tCallS (spMade C 3) (fun _ => E0) (tCons (tVar 4) tNil)) rfl scLaw9.nd rfl rfl (sw_true rfl rfl rfl (by decide +kernel)) (pi_list (pv 1)) (blkOk_by (own := [("_law_term_here", 4)]) (N := nsLaw9) (sc := defScope (topS 44)) (by decide +kernel))
          (fun _ _ _ _ _ => pg_name (i := 4) scLaw9.nd rfl (Or.inl rfl)) (fun _ _ _ _ _ => pts_nil)
          (fun _ _ _ _ _ => pe_cx (E := fun _ => E0) GM hr (by omega) (by rfl) at0 (pa_cons (pv 4) pa_nil)))
      (pss_cons (ps_if (PW.pt (pw_or (pt_cmpR op_ne (pe_cmpR (op_eqB (n := 11) (D := CIns C (RPrB C 3)) (rcB_ins FQ NM.at_ NM.fn BQ pass0) (hr.mono (by omega))) (pe_ix ix_list (pv 3) pe_int (fun _ _ => rfl)) (pe_ix ix_list (pv 3) pe_int (fun _ _ => rfl)) (nomark _)) (pe_cmpR (op_eqD hr.units) (pe_ix ix_list (pv 1) pe_int (fun _ _ => rfl)) (pe_ix ix_list (pv 1) pe_int (fun _ _ => rfl)) (nomark _)) (nomark _))
            (pw_or1 (pt_not (pt_cmpR (op_eqB (n := 11) (D := CIns C (RPrB C 3)) (rcB_ins FQ NM.at_ NM.fn BQ pass0) (hr.mono (by omega))) (pe_ix ix_list (pv 3) pe_int (fun _ _ => rfl)) (pe_ix ix_list (pv 3) pe_int (fun _ _ => rfl)) (nomark _)))))) (pss_one (ps_ret pe_bl)) pss_nil)
      (pss_cons (ps_for PassesOwn.never rfl (pi_range1 rfl L.range (pa_cons pe_int pa_nil)) (pg_name (i := 2) scLaw9.nd rfl (Or.inl rfl))
        (pss_cons (ps_set (i := 5) scLaw9.nd rfl (Or.inl rfl) (pe_cx (E := fun _ => E0) GM hr (by omega) (by rfl) at0 (pa_cons (pe_ix ix_list (pv 1) (pv 2) (fun _ _ => rfl)) pa_nil)))
          (pss_one (ps_if (PW.pt (pw_or (pt_not (pt_cmpR (op_eqB (n := 11) (D := CIns C (RPrB C 3)) (rcB_ins FQ NM.at_ NM.fn BQ pass0) (hr.mono (by omega))) (pe_ix ix_list (pv 3) (pv 2) (fun _ _ => rfl)) (pv 5) (nomark _))) (pw_or1 (pt_cmpR (op_neB (E := E0) NM FQ (hr.mono hk) BQ pass0) (pe_ix ix_list (pv 3) (pv 2) (fun _ _ => rfl)) (pv 5) (nomark _))))) (pss_one (ps_ret pe_bl)) pss_nil))))
      (pss_cons (ps_for PassesOwn.never rfl (pi_list (pe_cx (E := fun _ => E0) GX hr (by omega) (by rfl) at0 (pa_cons (pe_ix ix_list (pv 1) pe_int (fun _ _ => rfl)) pa_nil))) (pg_name (i := 6) scLaw9.nd rfl (Or.inl rfl))
        (pss_cons (ps_set (i := 7) scLaw9.nd rfl (Or.inl rfl) (pe_cx (E := fun _ => E0) GM hr (by omega) (by rfl) at0 (pa_cons (pv 6) pa_nil)))
          (pss_one (ps_if (PW.pt (pw_or (pt_cmpR (op_eqB (n := 11) (D := CIns C (RPrB C 3)) (rcB_ins FQ NM.at_ NM.fn BQ pass0) (hr.mono (by omega))) (pe_ix ix_list (pv 3) pe_int (fun _ _ => rfl)) (pv 7) (nomark _)) (pw_or (pt_cmpR (op_eqB (n := 11) (D := CIns C (RPrB C 3)) (rcB_ins FQ NM.at_ NM.fn BQ pass0) (hr.mono (by omega))) (pv 7) (pe_ix ix_list (pv 3) pe_int (fun _ _ => rfl)) (nomark _))
            (pw_or1 (pt_not (pt_cmpR (op_neB (E := E0) NM FQ (hr.mono hk) BQ pass0) (pe_ix ix_list (pv 3) pe_int (fun _ _ => rfl)) (pv 7) (nomark _))))))) (pss_one (ps_ret pe_bl)) pss_nil))))
      (pss_one (ps_ret pe_bl)))))), ?_⟩
    refine q_asgH (R := TmD) (n := 2) (vs := [2]) TmD.ex TmD.updD (ea_cons ev_c ea_nil) (by decide) (fun x => rfl) (fun i Dl acc H1 e1 hD hi H2 e2 Q2 q2 => ?_) (fun tl H1 ys htl e1 h1 hl hys => ?_)
    · refine ⟨_, rfl, _, rfl, a, sn, i, rfl, ex_l (e1.trans e2) hS, fun c H3 e3 => ⟨c, 63, rfl, by decide, fun row hrl hrok rl H4 hrl4 e4 h4 => ⟨rl, row, 0, rfl, h4, hrok, hrl, by decide, by decide, by decide, by decide, fun t p H5 _ e5 ht hp => ?_⟩⟩⟩
      have x4 := (e2.trans e3).trans e4
      exact q2 _ H5 (((e3.trans e4)).trans e5) ⟨t, p, rfl, ht.ex (nw_plus (x4 _ _ hD)), hp⟩
    obtain ⟨y0, y1, rfl⟩ : ∃ y0 y1, ys = [y0, y1] := by
      match ys, hl with
      | [y0, y1], _ => exact ⟨y0, y1, rfl⟩
    obtain ⟨t0, p0, rfl, r0, o0⟩ := hys y0 (List.mem_cons_self ..)
    obtain ⟨t1, p1, rfl, r1, o1⟩ := hys y1 (List.mem_cons_of_mem _ (List.mem_cons_self ..))
    have r0 := r0.ex hid_ex
    have r1 := r1.ex hid_ex
    clear hys hl
    have s3 : szB 3 = 10 := rfl
    have z0 : p0.size ≤ 400 := by have := o0.siz; omega
    have z1 : p1.size ≤ 400 := by have := o1.siz; omega
    have d0 : p0.depth ≤ 3 := o0.dep
    have d1 : p1.depth ≤ 3 := o1.dep
    refine q_asgLW (Pv := fun ys H' => LsA (PrV C) H' ys [p0, p1]) (elw_L (K := K) (a := tl) (xs := [.ref t0, .ref t1]) (j := 4) (vs := [4]) (R := PrV C) [p0, p1] (fun H H' v x e ⟨c, hv, hc⟩ => ⟨c, hv, hc.keepC ⟨fun a dx fs g => e.ins _ _ _ _ g, e.tup⟩⟩) (ev_var rfl) (sq_of h1) (by show 2 ≤ 40000; decide) (fun _ => rfl) rfl (fun i x n H2 e2 hx hn => ?_)) (fun ml H2 ys hml e2 h2 hys => ?_)
    · match i, hx, hn with
      | 0, hx, hn =>
        obtain rfl : x = .ref t0 := (Option.some.inj hx).symm
        obtain rfl : n = p0 := (Option.some.inj hn).symm
        exact es_made (ev_var rfl) (r0.ex e2) (al_q o0.al) o0.dep (by decide) z0
      | 1, hx, hn =>
        obtain rfl : x = .ref t1 := (Option.some.inj hx).symm
        obtain rfl : n = p1 := (Option.some.inj hn).symm
        exact es_made (ev_var rfl) (r1.ex e2) (al_q o1.al) o1.dep (by decide) z1
      | i + 2, hx, _ => exact absurd hx (by simp)
    obtain ⟨y0, y1, rfl⟩ : ∃ y0 y1, ys = [y0, y1] := by
      match ys, hys.length with
      | [y0, y1], _ => exact ⟨y0, y1, rfl⟩
    obtain ⟨⟨c0, rfl, g0⟩, ⟨c1, rfl, g1⟩, _⟩ := hys
    have h1 := e2 _ _ h1
    have r0 := r0.ex e2
    have r1 := r1.ex e2
    clear hml htl
    have tm : ∀ {σ9 : L2.St} {H9 : Hp} {te : TE} {i : Nat} {t : Addr}, Ex H2 H9 → σ9[1]? = some (some (.ref tl)) → Ev te σ9 H9 (.int (i : Int)) → [V.ref t0, V.ref t1][i]? = some (.ref t) → Ev (tOp (rIxL K) (tVar 1) te) σ9 H9 (.ref t) := fun e9 s1 hte hi => ev_op (ev_var s1) hte (rv_ixL (sq_of (e9 _ _ h1)) (atI_nat hi))
    have md : ∀ {σ9 : L2.St} {H9 : Hp} {te : TE} {i : Nat} {t : Addr}, Ex H2 H9 → σ9[3]? = some (some (.ref ml)) → Ev te σ9 H9 (.int (i : Int)) → [V.ref c0, V.ref c1][i]? = some (.ref t) → Ev (tOp (rIxL K) (tVar 3) te) σ9 H9 (.ref t) := fun e9 s1 hte hi => ev_op (ev_var s1) hte (rv_ixL (sq_of (e9 _ _ h2)) (atI_nat hi))
    refine q_when (b := false) (et_is (et_or (a := false) (b := false) (et_is (et_test (ev_op (x := .bl (same p0 p1)) (y := .bl (same p0 p1)) (ev_prEq (md (Ex.refl H2) rfl (ev_c (v := .int ((0 : Nat) : Int))) rfl) (md (Ex.refl H2) rfl (ev_c (v := .int ((1 : Nat) : Int))) rfl) g0 g1 o0.dep rfl) (ev_tmEq (tm (Ex.refl H2) rfl (ev_c (v := .int ((0 : Nat) : Int))) rfl) (tm (Ex.refl H2) rfl (ev_c (v := .int ((1 : Nat) : Int))) rfl) r0 r1 (al_q o0.al) (al_q o1.al) (by omega) (by omega)) (rv_ne rfl))) (by rw [decide_eq_true rfl]; rfl))
      (fun _ => et_is (et_not (et_test (ev_prEq (md (Ex.refl H2) rfl (ev_c (v := .int ((0 : Nat) : Int))) rfl) (md (Ex.refl H2) rfl (ev_c (v := .int ((0 : Nat) : Int))) rfl) g0 g0 o0.dep (same_self _)))) rfl)) rfl) (fun z => nomatch z) (fun _ H3 e3 => ?_)
    refine q_forR1 (n := 2) (ea_cons ev_c ea_nil) (by decide) (fun i σ' H' => ∃ (v2 v5 : Option V), σ' = [some (.ref a), some (.ref tl), v2, some (.ref ml), none, v5, none, none] ∧ Ex H2 H') (fun H4 e4 => ⟨_, _, rfl, e3.trans e4⟩) (fun i σ' H' hi ⟨v2, v5, hσ, he⟩ => ?_) (fun σ' H' ⟨v2, v5, hσ, he⟩ => ?_)
    · subst hσ
      obtain ⟨t, c, p, ht, hc, r, g, o⟩ : ∃ t c p, [V.ref t0, V.ref t1][i]? = some (.ref t) ∧ [V.ref c0, V.ref c1][i]? = some (.ref c) ∧ TrAt H2 t p ∧ PrAt C H2 c p ∧ TrOk 3 p := by
        have : i = 0 ∨ i = 1 := by omega
        rcases this with rfl | rfl
        · exact ⟨t0, c0, p0, rfl, rfl, r0, g0, o0⟩
        · exact ⟨t1, c1, p1, rfl, rfl, r1, g1, o1⟩
      have z : p.size ≤ 400 := by have := o.siz; omega
      refine q_asgS (es_made (tm he rfl (ev_var rfl) ht) (r.ex he) (al_q o.al) o.dep (by decide) z) (fun v H4 e4 ⟨b, hv, hb⟩ => ?_)
      subst hv
      have x4 := he.trans e4
      exact s_when (b := false) (et_is (et_or (a := false) (b := false) (et_is (et_not (et_test (ev_prEq (md x4 rfl (ev_var rfl) hc) (ev_var rfl) (g.ex x4) hb o.dep (same_self _)))) rfl) (fun _ => et_test (ev_prNe (md x4 rfl (ev_var rfl) hc) (ev_var rfl) (g.ex x4) hb o.dep (by rw [same_self]; rfl)))) rfl) (fun z => nomatch z) (fun _ H5 e5 => ⟨_, _, rfl, x4.trans e5⟩)
    · subst hσ
      refine q_forChg (K := K) (d := 3) (j := 6) (tm he rfl (ev_c (v := .int ((0 : Nat) : Int))) rfl) (r0.ex he) o0.al o0.dep z0 (by omega) (fun σ => ∃ v6 v7 : Option V, σ = [some (.ref a), some (.ref tl), v2, some (.ref ml), none, v5, v6, v7]) ⟨_, _, rfl⟩ (fun H3 H4 a' q' σ' hσ e3 e4 ht hg => ?_) (fun σ' H3 hσ e3 => ?_)
      · obtain ⟨v6, v7, rfl⟩ := hσ
        have dq : q'.depth ≤ 3 := by have := hg.dep; omega
        have zq : q'.size ≤ 400 := by have := hg.siz; omega
        refine q_asgS (es_made (ev_var rfl) ht hg.al (show q'.depth ≤ ((3 : Nat) : Int) from dq) (by decide) zq) (fun v H5 e5 ⟨b, hv, hb⟩ => ?_)
        subst hv
        have x5 := ((he.trans e3).trans e4).trans e5
        have g5 := g0.ex x5
        have ne1 : same p0 q' = false := same_no fun z => hg.ne z.symm
        have ne2 : same q' p0 = false := same_no hg.ne
        exact s_when (b := false) (et_is (et_or (a := false) (b := false) (et_test (ev_prEq (md x5 rfl (ev_c (v := .int ((0 : Nat) : Int))) rfl) (ev_var rfl) g5 hb o0.dep ne1)) (fun _ => et_is (et_or (a := false) (b := false) (et_test (ev_prEq (ev_var rfl) (md x5 rfl (ev_c (v := .int ((0 : Nat) : Int))) rfl) hb g5 (show q'.depth ≤ ((3 : Nat) : Int) from dq) ne2))
          (fun _ => et_is (et_not (et_test (ev_prNe (x := true) (md x5 rfl (ev_c (v := .int ((0 : Nat) : Int))) rfl) (ev_var rfl) g5 hb o0.dep (by rw [ne1]; rfl)))) rfl)) rfl)) rfl) (fun z => nomatch z) (fun _ H6 e6 => ⟨⟨_, _, rfl⟩, (e4.trans e5).trans e6⟩)
      · exact s_ret ev_c (fun H6 e6 => q H6)
end
end Fs

set_option Elab.async false
set_option linter.all false
set_option maxRecDepth 100000
set_option maxHeartbeats 4000000
/-! An own error over ValueError, by a class between: its __init__ calls super().__init__ with a fixed text, then stores its one argument as the field field. -/
namespace FsB
open PySem PySem.W PySem.Calls PyProof.Rows PySem.HandSPX
abbrev eS : Scope := { kind := .function, names := [(PySem.Str.ofString "self", .local), (PySem.Str.ofString "field", .local), (PySem.Str.ofString "__class__", .free), (PySem.Str.ofString "super", .globalImplicit)], isGenerator := false, isCoroutine := false, more := [] }
abbrev eA (p1 p2 : Pos) : Arguments := { posonlyargs := [], args := [{ arg := "self", annotation := none, pos := p1 }, { arg := "field", annotation := none, pos := p2 }], vararg := none, kwonlyargs := [], kw_defaults := [], kwarg := none, defaults := [] }
abbrev eB (msg : Expr) (p0 p1 p2 p3 p4 p5 p6 p7 p8 : Pos) : List Stmt := [.Expr (.Call (.Attribute (.Call (.Name "super" p0) [] [] p1) "__init__" p2) [msg] [] p3) p4, .Assign [.Attribute (.Name "self" p5) "field" p6] (.Name "field" p7) p8]
/-- the message -/
abbrev eM (z : Str) (q0 : Pos) : Expr := .Constant (.str z) 0 q0
abbrev mroVE : List Value := [.type "ValueError", .type "Exception", .type "BaseException", .type "object"]
/-- what the written part says of the class at C, and of its __init__, at fI -/
structure ErrTxt (prog : Program) (K : Frag) (mg : Str → Option Value) (x : Str) (C fI : Addr) : Prop where
  gC : mg x = some (.ref C)
  cls : ∃ nm q N bs bm sn sub ab col dd k0 k1 k2 k3 k5, K.lookup C = some (excClassObj nm q C N bs bm true sn sub ab col dd k0 k1 k2 k3 k5 "ValueError.__new__") ∧ refsVE bm = true
  ei : excInitIn K C mroVE "ValueError.__new__" = true
  sa : findIn K (.ref C) "__setattr__" = some (some (.builtin "object.__setattr__"))
  noN : findIn K (.ref C) "field" = some none
  iC : findIn K (.ref C) "__init__" = some (some (.ref fI))
  tC : typeIn K (.ref fI) = some (.type "function")
  kC : keepIn K (.ref C) = true
  exC : subIn K (.ref C) (.type "BaseException") = some true
  veC : subIn K (.ref C) (.type "ValueError") = some true
  tyC : typeIn K (.ref C) = some (.type "type")
  slf : mroIn K C (.ref C) = some true
  sup : ks_superIn K C C "__init__" = some (some (.builtin "ValueError.__init__"))
  opq : nsIn K cStatics "thirdparty.any" = some none
  gs : mg "super" = none
  top : (prog.main.scope.names.lookup ("super" : Str)).isSome = false
  fn : ∃ (oc : Value) (od an : Option Addr) (kV doc pm ct : Value) (osl : Array (Option Value)) (qual : Str) (cda cc : Addr) (ccl cl : Value) (cdd cld : Option Addr) (ccs csl : Array (Option Value)) (vs : Array Value) (file : Str) (tf : Tok) (zM : Str) (p1 p2 q0 r0 r1 r2 r3 r4 r5 r6 r7 r8 : Pos),
    K.lookup fI = some ⟨oc, od, .func (ksFn "__init__" qual (eA p1 p2) (eB (eM zM q0) r0 r1 r2 r3 r4 r5 r6 r7 r8) eS .none kV doc pm an (.ref cda) ct cc), osl⟩ ∧ codeIn K (.ref cda) qual = true ∧
    K.lookup cda = some ⟨ccl, cdd, .fields vs, ccs⟩ ∧ vs[2]? = some (.str file tf) ∧ ((prog.main.file : Str) == file) = true ∧ K.lookup cc = some ⟨cl, cld, .cell (some (.ref C)), csl⟩ ∧ zM.length ≤ 1000 ∧ (r2.endLine == r3.line) = true
theorem call_line {o : Expr} {name : Str} {apos pos : Pos} {a : Expr} {env : Env} (hp : (apos.endLine == pos.line) = true) (hs : starEach [a] env = (false, eval a env) :: starEach [] env) : eval (.Call (.Attribute o name apos) [a] [] pos) env = (do
      let ov ← attributeBase o name env (eval o env)
      standAt apos.atName
      let (f, first) ← holding [ov] (getMethod ov name (do return (← importBound o env).getD true))
      callWith pos f first (backTo pos (starEach [a] env)) []) := by
  show (do
      let ov ← attributeBase o name env (eval o env)
      standAt apos.atName
      methodCall o name apos pos env ov 1 (backTo pos (starEach [a] env)) []) = _
  have e : methodCallForm 1 (backTo pos (starEach [a] env)) [] = true := by
    rw [hs]
    rfl
  unfold methodCall
  rw [e]
  unfold methodCallPos calleeOf
  rw [hp]
  simp only [Bool.not_true, Bool.false_or, if_true, pure_bind]
/-- what __init__ leaves of a fresh exception at x, over the heap h -/
structure BtEnd (h h' : Heap) (x C dx t1 : Addr) (v : Value) : Prop where
  keep : ∀ b o, h.get? b = some o → h'.get? b = some o
  obj : h'.get? x = some { cls := .ref C, dict := some dx, data := .fields #[.ref t1, .none, .none, .none, .bool false, .none] }
  dbig : h.objs.size ≤ dx
  dne : dx ≠ x
  ns : h'.Ns1 dx (fun y => if y = "field" then some v else none)
theorem str_len2 (a b : Str) : (a ++ b).length = a.length + b.length := by
  show (a.cps ++ b.cps).size = _
  rw [Array.size_append]
  rfl
theorem len1 (v : Value) : [v].length ≤ sizeLine := by
  rw [sizeLine_eq]
  exact (by decide : 1 ≤ 16777216)
section
variable {prog : Program} {w : World} {A : Around} {E : Value → Shared → Prop} {R : Result → Shared → Prop} {s : Shared} {K : Frag} {mg : Str → Option Value} {x0 : Str} {C fI : Addr}
theorem bt_init (T : ErrTxt prog K mg x0 C fI) {hp : Heap} {x t0 : Addr} {v : Value} (X : K.In hp) (G : hp.Ns mainGlobals mg) (Bl : ∃ mb, hp.Ns builtinsNs mb ∧ mb "super" = some (.type "super")) (hlim : s.heap.NoLimit)
    (k : ∀ b o, hp.get? b = some o → s.heap.get? b = some o) (hsz : hp.objs.size ≤ s.heap.objs.size) (hx : s.heap.get? x = some (excO C t0)) (hxn : hp.get? x = none) (hroom : A.depth < recursionLimit)
    (hq : ∀ h' tk' dx t1, BtEnd hp h' x C dx t1 v → R (.ok (.ret .none)) { s with heap := h', toks := tk' }) :
    codeAny (model prog w) A (.call (.ref fI) ⟨[.ref x, v], []⟩) R s := by
  obtain ⟨oc, od, an, kV, doc, pm, ct, osl, qual, cda, cc, ccl, cl, cdd, cld, ccs, csl, vs, file, tf, zM, p1, p2, q0, r0, r1, r2, r3, r4, r5, r6, r7, r8, ho, hcd, hcode, hvs, hfile, hcell, hM, hline⟩ := T.fn
  obtain ⟨nm, q, N, bs, bm, sn, sub, ab, col, dd, k0, k1, k2, k3, k5, hC, hbm⟩ := T.cls
  obtain ⟨mb, hb, hmb⟩ := Bl
  have hcl : clsIn K C = some { name := nm, bases := bs, mro := .ref C :: bm, ns := N, qualname := q, hasDict := true, slotNames := sn, subclasses := sub, abstract := ab, collection := col, hasDel := false } := by unfold clsIn; rw [hC] <;> rfl
  have Xs : K.In s.heap := X.keeps k
  have noc : ∀ y ∈ eS.names, y.2 ≠ .cell := by decide +kernel
  have locs : ∀ y ∈ [(("self" : Str), Value.ref x), ("field", v)], eS.names.lookup y.1 = some .local := fun y hy => by
    rcases List.mem_cons.mp hy with rfl | hy
    · rfl
    · rw [List.mem_singleton.mp hy]
      rfl
  refine ks_codeAny_call_defAt (body := eB (eM zM q0) r0 r1 r2 r3 r4 r5 r6 r7 r8) (binds := [("self", .ref x), ("field", v)]) hroom (Xs _ _ ho) rfl hlim (codeRec_of Xs hcd) rfl (BindsTo.of_eq (by first | rfl | with_unfolding_all rfl)) noc locs (fun h₁ hns hk₁ => ?_) rfl rfl rfl
  have Fr1 : Fr hp s.heap.objs.size h₁ (fun y => [(("self" : Str), Value.ref x), ("field", v)].reverse.lookup y) := ⟨hns, fun b o e => hk₁ b o (k b o e), hsz⟩
  have N1 : News hp s.heap.objs.size h₁ [(x, excObj C t0 none .none)] := fun p hp' => by
    rw [List.mem_singleton.mp hp']
    exact ⟨hk₁ _ _ hx, Nat.ne_of_lt (Heap.lt_size hx), hxn⟩
  show _root_.PySem.wpAt (model prog w) _ (.func _ (ksEnv qual eS s.heap.objs.size fI (.ref cda) cc)) (execs (eB (eM zM q0) r0 r1 r2 r3 r4 r5 r6 r7 r8) (ksEnv qual eS s.heap.objs.size fI (.ref cda) cc)) _ _ _
  refine ks_wpAt_execs_cons (ks_wpAt_Expr_any (ks_wpAt_MethodCall ?_ (call_line hline rfl)))
  generalize hE : (fun e s' => wpAny (model prog w) _ (leaving _ e) (fun x s'' => R (Except.error e) s'') (fun e' s'' => R (Except.error e') s'') s') = EE
  have X1 : K.In h₁ := X.keeps Fr1.keep
  -- super()
  refine ks_wpAt_super_base (env := ksEnv qual eS s.heap.objs.size fI (.ref cda) cc) rfl rfl rfl rfl (X1 _ _ ho) rfl rfl rfl (X1 _ _ hcode) rfl hvs hfile T.top ?_
  refine ks_loadName_global rfl rfl (loadGlobal_builtin (env := ksEnv qual eS s.heap.objs.size fI (.ref cda) cc) (G.keeps Fr1.keep) T.gs (hb.keeps Fr1.keep) hmb ⟨rfl, ?_⟩)
  refine wpAny_loadName_free rfl rfl rfl ⟨_, X1 _ _ hcell, rfl⟩ ?_
  refine wpAny_loadName_local (v := .ref x) rfl rfl hns rfl ?_
  refine ks_wpAny_isType_cls (X1 _ _ hC) rfl ⟨rfl, ?_⟩
  refine ks_wpAny_call_super (X1 _ _ hC) rfl (hk₁ _ _ hx) rfl (fun c z => by cases z) (looks_mroIn X1 T.slf) (fun h2 hso k2 => ?_)
  obtain ⟨F2, N2, l2⟩ := ks_newsPush (s := ⟨h₁, s.gens, s.drawn, s.toks + 2, s.os⟩) Fr1 N1 rfl hso k2
  -- its __init__, bound
  refine kxs_method kxs_ValueError F2 X N2 (List.mem_cons_self ..) (InstAt.of_exc0 (c2 := .none) (t := t0) N2 (List.mem_cons_of_mem _ (List.mem_cons_self ..))) T.opq T.sup T.veC rfl (fun u h3 F3 N3 l3 => ?_)
  refine kxs_callWith1 N3 (List.mem_cons_self ..) ?_ rfl rfl
  refine Calls.spliced_cons ?_
  show wpAny _ _ (eval (eM zM q0) (ksEnv qual eS s.heap.objs.size fI (.ref cda) cc)) _ _ _
  refine Calls.Constant_str ?_
  refine Calls.spliced_nil ⟨kxs_at N3 (List.mem_cons_self ..), ?_⟩
  have nx1 : h₁.objs.size ≠ x := fun z => Nat.lt_irrefl _ (z ▸ l2 _ (List.mem_cons_self ..) : x < x)
  have nx2 : u ≠ x := fun z => Nat.lt_irrefl _ (z ▸ l3 _ (List.mem_cons_of_mem _ (List.mem_cons_self ..)) : x < x)
  refine kxs_call F3 X N3 PySem.F.excBase_ValueError T.ei (List.mem_cons_self ..) (.tail nx2 (.tail nx1 (.head fun p hp' => by cases hp'))) (len1 _) (fun t' h4 F4 N4 l4 => ?_)
  -- self.field = field
  have X4 : K.In h4 := X.keeps F4.keep
  have hx4 : h4.get? x = some (excO C t') := (N4 (x, excObj C t' none .none) (List.mem_cons_of_mem _ (List.mem_cons_of_mem _ (List.mem_cons_of_mem _ (List.mem_cons_self ..))))).1
  refine wpAt_of_wpAny (wpAny_execs_cons (plainObj_wpAny_Assign_Attribute ?_))
  refine wpAny_Name (wpAny_loadName_local (v := v) rfl rfl F4.ns rfl ?_) rfl
  refine wpAny_Name (wpAny_loadName_local (v := .ref x) rfl rfl F4.ns rfl ?_) rfl
  refine set_plain X4 (ox := excO C t') (od := none) ⟨hx4, rfl, rfl, trivial⟩ T.sa ?_
  refine exc_osa X4 hx4 hcl (show refsVE (.ref C :: bm) = true from hbm) rfl T.noN (fun h5 tk5 dx k5 dn dne hx5 hn5 => ?_)
  have zz : s.heap.objs.size < h4.objs.size := F4.ns.lt
  exact wpAny_execs_nil (hq h5 tk5 dx t' ⟨fun b o e => k5 b o (fun z => by rw [z, hxn] at e; cases e) (F4.keep b o e), hx5, Nat.le_trans hsz (Nat.le_trans (Nat.le_of_lt zz) dn), dne, hn5⟩)
end
end FsB

set_option Elab.async false
set_option linter.all false
set_option maxRecDepth 100000
set_option maxHeartbeats 4000000
namespace FsB
open PySem PySem.W PySem.Calls PyProof.Rows PySem.HandSPX
/-- a made one -/
structure BtMade (h h' : Heap) (e C d : Addr) (v : Value) : Prop where
  keep : ∀ b o, h.get? b = some o → h'.get? b = some o
  big : h.objs.size ≤ e
  obj : ∃ t1 : Addr, h'.get? e = some { cls := .ref C, dict := some d, data := .fields #[.ref t1, .none, .none, .none, .bool false, .none] }
  dbig : h.objs.size ≤ d
  dne : d ≠ e
  ns : h'.Ns1 d (fun y => if y = "field" then some v else none)
section
variable {prog : Program} {w : World} {A : Around} {R : Result → Shared → Prop} {s : Shared} {K : Frag} {mg : Str → Option Value} {x0 : Str} {C fI : Addr}
theorem bt_made (T : ErrTxt prog K mg x0 C fI) {v : Value} (X : K.In s.heap) (G : s.heap.Ns mainGlobals mg) (Bl : ∃ mb, s.heap.Ns builtinsNs mb ∧ mb "super" = some (.type "super")) (hlim : s.heap.NoLimit) (hroom : A.depth + 1 < recursionLimit)
    (hq : ∀ h' tk' e d, BtMade s.heap h' e C d v → R (.ok (.ret (.ref e))) { s with heap := h', toks := tk' }) : codeAny (model prog w) A (.call (.ref C) ⟨[v], []⟩) R s := by
  obtain ⟨nm, q, N, bs, bm, sn, sub, ab, col, dd, k0, k1, k2, k3, k5, hC, hbm⟩ := T.cls
  obtain ⟨g0, gs, dr, t, os⟩ := s
  let g2 : Heap := (g0.push (kdv_tup [v])).push (excO C g0.objs.size)
  have up : ∀ b o, g0.get? b = some o → g2.get? b = some o := fun b o e => Heap.get?_push_of_some _ (Heap.get?_push_of_some _ e)
  have at1 : g2.get? (g0.objs.size + 1) = some (excO C g0.objs.size) := by
    show ((g0.push (kdv_tup [v])).push (excO C g0.objs.size)).get? (g0.objs.size + 1) = _
    heap_get
  have sz2 : g2.objs.size = g0.objs.size + 1 + 1 := by
    show ((g0.push (kdv_tup [v])).push (excO C g0.objs.size)).objs.size = _
    rw [Heap.size_push, Heap.size_push]
  have free1 : g0.get? (g0.objs.size + 1) = none := by
    cases e : g0.get? (g0.objs.size + 1) with
    | none => rfl
    | some o => exact absurd (Nat.lt_of_succ_lt (Heap.lt_size e)) (Nat.lt_irrefl _)
  refine call_own F.excBase_ValueError (fun Y => refsVE_contains Y bm hbm) (X _ _ hC) (looks_findIn X T.iC) (fun self => bind_fn X self T.tC) (len1 _) ?_
  refine bt_init (s := ⟨g2, gs, dr, t, os⟩) (hp := g0) T X G Bl (hlim.keeps up) up (by show g0.objs.size ≤ g2.objs.size; omega) at1 free1 hroom fun h' t' dx t1 ⟨k, ho, dbig, dne, hns⟩ => ?_
  exact ⟨rfl, hq h' t' (g0.objs.size + 1) dx ⟨k, Nat.le_succ _, ⟨t1, ho⟩, dbig, dne, hns⟩⟩
end
end FsB
namespace Fs
open PySem PySem.Spec PyProof.Rows L2 FsB
theorem relO_field {f : Str} {v : V} {u : Value} (r : RelV v u) (g : Str) : RelO (List.lookup g [(f, v)]) (if g = f then some u else none) := by
  by_cases h : g = f
  · rw [h, if_pos rfl, show List.lookup f [(f, v)] = some v by simp [List.lookup]]
    exact r
  · rw [if_neg h, show List.lookup g [(f, v)] = none by simp [List.lookup, show (g == f) = false by simpa using h]]
    trivial
theorem raises_bt {P : Program} {w : World} {K : PySem.W.Frag} {mg : Str → Option Value} {base : Heap} {x : Str} {C fI : Addr} {k : Nat} (hdb : (x == ("__debug__" : Str)) = false) (T : ErrTxt P K mg x C fI) : RaisesX P w K mg base x C "field" k := by
  intro X eP ew eK em eb hr a ta p pos ha hg he hpl pins s σ H Q I h
  subst eP ew eK em eb
  refine wpAny_Call_Name_kw (ld_glob I hg T.gC ?_ hdb)
  refine PySem.W.callWith_K (h₀ := X.base) I.ok.mod.kin T.kC (thn (ha.run pos pins s σ H _ I h) fun us s1 ⟨vs, H1, I1, r1, z, ev, hz, q1⟩ => ?_) he hpl
  subst ev
  refine ⟨I1.kIn, ?_⟩
  cases r1 with
  | cons rv rn =>
    cases rn
    obtain ⟨tk, rfl⟩ := rv
    show wpAny _ _ (call (.ref C) [.str z tk]) _ _ _
    have lim := I1.nolimit
    obtain ⟨mb, b1, b2⟩ := I1.ok.mod.blt
    have gl : s1.heap.Ns mainGlobals X.mg := I1.ok.mod.glob.keeps I1.bk
    have bl : ∃ mb, s1.heap.Ns builtinsNs mb ∧ mb "super" = some (.type "super") := ⟨mb, b1.keeps I1.bk, (b2 _ (by decide)).trans Boot.«super»⟩
    obtain ⟨g0, gs, dr, t, os⟩ := s1
    refine wpAny_call (bt_made T I1.kIn gl bl lim (by have := hr.dp; omega) fun h' t' e d M => ?_)
    show MkP X pins σ Q (.ref e) ⟨h', gs, dr, t', os⟩
    obtain ⟨t1, ho⟩ := M.obj
    obtain ⟨G', ge1, ge2⟩ := restrict h' fun b => decide (b ≠ e)
    have same : ∀ b, b ≠ e → G'.get? b = h'.get? b := fun b hb => ge1 b (decide_eq_true hb)
    have gone : G'.get? e = none := ge2 e (by simp)
    have old : ∀ b o, g0.get? b = some o → G'.get? b = some o := fun b o q => (same b (Nat.ne_of_lt (Nat.lt_of_lt_of_le (Heap.lt_size q) M.big))).trans (M.keep b o q)
    have ob : ObjOk X.prog X.w (upd H1 d (.xd [(("field" : Str), V.str z)])) G' d (.xd [(("field" : Str), V.str z)]) := ⟨_, M.ns.at (fun o q => (same d M.dne).trans q), fun f => relO_field (v := V.str z) ⟨tk, rfl⟩ f⟩
    have J : Inv X pins σ (upd H1 d (.xd [(("field" : Str), V.str z)])) ⟨G', gs, dr, t', os⟩ := I1.laid (t' := t') old M.dbig ob
    refine ⟨e, _, _, ⟨G', gs, dr, t', os⟩, _, .ref C, some d, rfl, J, fun b o q => ?_, gone, ho, ⟨rfl, rfl⟩, rfl, rfl, ?_, rfl, I1.bare, raises_own T.exC T.tyC, q1 d (I1.hok.fresh M.dbig)⟩
    · by_cases hb : b = e
      · have q' : G'.get? b = some o := q
        rw [hb, gone] at q'
        cases q'
      · exact (same b hb).symm.trans q
    · rw [upd_ne (Ne.symm M.dne)]
      exact I1.hok.fresh M.big
end Fs

set_option Elab.async false
set_option linter.all false
set_option maxRecDepth 100000
set_option maxHeartbeats 8000000
namespace Fs
open PySem PySem.Spec PyProof.Rows L2 Evl FsE FsC FsR FsT FsK FsQ FsB
theorem exm_own {K : PySem.W.Frag} {S : Addr} (h1 : PySem.W.subIn K (.ref S) (.type "BaseException") = some true) (h2 : PySem.W.isClsIn K S = true) (h3 : PySem.W.typeIn K (.ref S) = some (.type "type")) (h4 : PySem.W.subIn K (.ref S) (.ref S) = some true) : PySem.W.exmOne K (.ref S) (.ref S) = some true := by
  unfold PySem.W.exmOne PySem.W.kitCls
  have h2' : (PySem.W.clsIn K S).isSome = true := h2
  simp only [h1, h2', h3, h4, beq_self_eq_true, Bool.and_self, if_true]
theorem kit_no {K : PySem.W.Frag} {S : Addr} {T : String} (h2 : PySem.W.isClsIn K S = true) (h3 : PySem.W.typeIn K (.ref S) = some (.type "type")) (h4 : PySem.W.subIn K (.type T) (.ref S) = some false) : PySem.W.kitOne K (.type T) (.ref S) = some false := by
  unfold PySem.W.kitOne PySem.W.kitCls
  have h2' : (PySem.W.clsIn K S).isSome = true := h2
  have h0 : (Value.type T == Value.ref S) = false := rfl
  simp only [h0, h2', h3, h4, beq_self_eq_true, Bool.and_self, if_true]
  rfl
theorem kit_two {K : PySem.W.Frag} {C S : Addr} (h0 : (Value.ref C == Value.ref S) = false) (h2 : PySem.W.isClsIn K S = true) (h3 : PySem.W.typeIn K (.ref S) = some (.type "type")) (h4 : PySem.W.subIn K (.ref C) (.ref S) = some false) : PySem.W.kitOne K (.ref C) (.ref S) = some false := by
  unfold PySem.W.kitOne PySem.W.kitCls
  have h2' : (PySem.W.clsIn K S).isSome = true := h2
  simp only [h0, h2', h3, h4, beq_self_eq_true, Bool.and_self, if_true]
  rfl
theorem all_mk {P : Program} {w : World} {K : PySem.W.Frag} {h : Heap} {mg : Str → Option Value} {fa : Addr} (X : K.In h) (G : h.Ns mainGlobals mg) (hfa : mg "law" = some (.ref fa))
    {CB : Addr} {nmB qB : Str} {NB cS fB cda cc : Addr} {bsB : List Value} {snB : List Str} {subB : List Value} {abB : Bool} {colB : Option Bool} {ddB : Option Addr} {m0 m1 m2 m3 m5 : Option Value} {ocB kVB dcB pmB ctB ccl clB : Value} {odB anB cdd cld : Option Addr} {slB ccs csl : Array (Option Value)} {vsB : Array Value} {fileB : Str} {tfB : Tok} {zM : Str} {b1 b2 q0 r0 r1 r2 r3 r4 r5 r6 r7 r8 : Pos}
    {zL : Str} {tL : Tok}
    {zD : Str} {tD : Tok}
    {iN : Int} {tN : Tok}
    {iT : Int} {tT : Tok}
    {iM : Int} {tM : Tok}
    {iDe : Int} {tDe : Tok}
    {iSi : Int} {tSi : Tok}
    {aR : Addr} {odR : Option Addr} {slR : Array (Option Value)} {itsR : Array Value} {nR : Nat}
    {C : Addr}
    {finit : Addr} {odinit aninit : Option Addr} {slinit : Array (Option Value)} {ocinit kVinit dcinit pminit cdinit ctinit : Value}
    {fisname : Addr} {odisname anisname : Option Addr} {slisname : Array (Option Value)} {ocisname kVisname dcisname pmisname cdisname ctisname : Value}
    {fisint : Addr} {odisint anisint : Option Addr} {slisint : Array (Option Value)} {ocisint kVisint dcisint pmisint cdisint ctisint : Value}
    {fisshort : Addr} {odisshort anisshort : Option Addr} {slisshort : Array (Option Value)} {ocisshort kVisshort dcisshort pmisshort cdisshort ctisshort : Value}
    {fisop : Addr} {odisop anisop : Option Addr} {slisop : Array (Option Value)} {ocisop kVisop dcisop pmisop cdisop ctisop : Value}
    {fdemand : Addr} {oddemand andemand : Option Addr} {sldemand : Array (Option Value)} {ocdemand kVdemand dcdemand pmdemand cddemand ctdemand : Value}
    {finner : Addr} {odinner aninner : Option Addr} {slinner : Array (Option Value)} {ocinner kVinner dcinner pminner cdinner ctinner : Value}
    {fsize : Addr} {odsize ansize : Option Addr} {slsize : Array (Option Value)} {ocsize kVsize dcsize pmsize cdsize ctsize : Value}
    {fdepth : Addr} {oddepth andepth : Option Addr} {sldepth : Array (Option Value)} {ocdepth kVdepth dcdepth pmdepth cddepth ctdepth : Value}
    {iOp : Int} {tOp : Tok}
    {iOf : Int} {tOf : Tok}
    {pstop : Addr} {reststop : List Value}
    {fststop : Addr} {odststop anststop : Option Addr} {slststop : Array (Option Value)} {ocststop kVststop dcststop pmststop cdststop ctststop : Value}
    {poffer : Addr} {restoffer : List Value}
    {fstoffer : Addr} {odstoffer anstoffer : Option Addr} {slstoffer : Array (Option Value)} {ocstoffer kVstoffer dcstoffer pmstoffer cdstoffer ctstoffer : Value}
    {pnew : Addr} {restnew : List Value}
    {fstnew : Addr} {odstnew anstnew : Option Addr} {slstnew : Array (Option Value)} {ocstnew kVstnew dcstnew pmstnew cdstnew ctstnew : Value}
    {pwhen : Addr} {restwhen : List Value}
    {fstwhen : Addr} {odstwhen anstwhen : Option Addr} {slstwhen : Array (Option Value)} {ocstwhen kVstwhen dcstwhen pmstwhen cdstwhen ctstwhen : Value}
    {pcall : Addr} {restcall : List Value}
    {fstcall : Addr} {odstcall anstcall : Option Addr} {slstcall : Array (Option Value)} {ocstcall kVstcall dcstcall pmstcall cdstcall ctstcall : Value}
    {fadd : Addr} {odadd anadd : Option Addr} {sladd : Array (Option Value)} {ocadd kVadd dcadd pmadd cdadd ctadd : Value}
    {fpeq : Addr} {odpeq anpeq : Option Addr} {slpeq : Array (Option Value)} {ocpeq kVpeq dcpeq pmpeq cdpeq ctpeq : Value}
    {farenames : Addr} {odarenames anarenames : Option Addr} {slarenames : Array (Option Value)} {ocarenames kVarenames dcarenames pmarenames cdarenames ctarenames : Value}
    {fisseats : Addr} {odisseats anisseats : Option Addr} {slisseats : Array (Option Value)} {ocisseats kVisseats dcisseats pmisseats cdisseats ctisseats : Value}
    {fischoice : Addr} {odischoice anischoice : Option Addr} {slischoice : Array (Option Value)} {ocischoice kVischoice dcischoice pmischoice cdischoice ctischoice : Value}
    {fcellat : Addr} {odcellat ancellat : Option Addr} {slcellat : Array (Option Value)} {occellat kVcellat dccellat pmcellat cdcellat ctcellat : Value}
    {fmixed : Addr} {odmixed anmixed : Option Addr} {slmixed : Array (Option Value)} {ocmixed kVmixed dcmixed pmmixed cdmixed ctmixed : Value}
    {frow : Addr} {odrow anrow : Option Addr} {slrow : Array (Option Value)} {ocrow kVrow dcrow pmrow cdrow ctrow : Value}
    {fword : Addr} {odword anword : Option Addr} {slword : Array (Option Value)} {ocword kVword dcword pmword cdword ctword : Value}
    {flop : Addr} {odlop anlop : Option Addr} {sllop : Array (Option Value)} {oclop kVlop dclop pmlop cdlop ctlop : Value}
    {floff : Addr} {odloff anloff : Option Addr} {slloff : Array (Option Value)} {ocloff kVloff dcloff pmloff cdloff ctloff : Value}
    {fterm : Addr} {odterm anterm : Option Addr} {slterm : Array (Option Value)} {octerm kVterm dcterm pmterm cdterm ctterm : Value}
    {fmade : Addr} {odmade anmade : Option Addr} {slmade : Array (Option Value)} {ocmade kVmade dcmade pmmade cdmade ctmade : Value}
    {fwdC : Addr} {odwdC anwdC : Option Addr} {slwdC : Array (Option Value)} {ocwdC kVwdC dcwdC pmwdC cdwdC ctwdC : Value}
    {fopC : Addr} {odopC anopC : Option Addr} {slopC : Array (Option Value)} {ocopC kVopC dcopC pmopC cdopC ctopC : Value}
    {fofC : Addr} {odofC anofC : Option Addr} {slofC : Array (Option Value)} {ocofC kVofC dcofC pmofC cdofC ctofC : Value}
    {fchg : Addr} {odchg anchg : Option Addr} {slchg : Array (Option Value)} {occhg kVchg dcchg pmchg cdchg ctchg : Value}
    {flaw : Addr} {odlaw anlaw : Option Addr} {sllaw : Array (Option Value)} {oclaw kVlaw dclaw pmlaw cdlaw ctlaw : Value}
    (aB : PySem.W.nsIn K mainGlobals "BadTerm" = some (some (.ref CB)))
    (xB : K.lookup CB = some (excClassObj nmB qB CB NB bsB [.ref cS, .type "ValueError", .type "Exception", .type "BaseException", .type "object"] true snB subB abB colB ddB m0 m1 m2 m3 m5 "ValueError.__new__"))
    (eiB : PySem.W.excInitIn K CB [.type "ValueError", .type "Exception", .type "BaseException", .type "object"] "ValueError.__new__" = true)
    (saB : PySem.W.findIn K (.ref CB) "__setattr__" = some (some (.builtin "object.__setattr__")))
    (noB : PySem.W.findIn K (.ref CB) "field" = some none)
    (iB : PySem.W.findIn K (.ref CB) "__init__" = some (some (.ref fB)))
    (tB : PySem.W.typeIn K (.ref fB) = some (.type "function"))
    (kB : PySem.W.keepIn K (.ref CB) = true)
    (exB : PySem.W.subIn K (.ref CB) (.type "BaseException") = some true)
    (veB : PySem.W.subIn K (.ref CB) (.type "ValueError") = some true)
    (tyB : PySem.W.typeIn K (.ref CB) = some (.type "type"))
    (mroB : PySem.W.mroIn K CB (.ref CB) = some true)
    (spB : PySem.W.ks_superIn K CB CB "__init__" = some (some (.builtin "ValueError.__init__")))
    (opq : PySem.W.nsIn K cStatics "thirdparty.any" = some none)
    (lB : K.lookup fB = some ⟨ocB, odB, .func (PySem.W.ksFn "__init__" "BadTerm.__init__" (FsB.eA b1 b2) (FsB.eB (FsB.eM zM q0) r0 r1 r2 r3 r4 r5 r6 r7 r8) FsB.eS .none kVB dcB pmB anB (.ref cda) ctB cc), slB⟩)
    (cB : PySem.W.codeIn K (.ref cda) "BadTerm.__init__" = true)
    (oB : K.lookup cda = some ⟨ccl, cdd, .fields vsB, ccs⟩)
    (vB : vsB[2]? = some (.str fileB tfB))
    (fB1 : ((P.main.file : Str) == fileB) = true)
    (ceB : K.lookup cc = some ⟨clB, cld, .cell (some (.ref CB)), csl⟩)
    (lnB : (r2.endLine == r3.line) = true)
    (zMB : zM.length ≤ 1000)
    (topB : (P.main.scope.names.lookup ("super" : Str)).isSome = false)
    (gaB : PySem.W.findIn K (.ref CB) "__getattribute__" = some (some (.builtin "BaseException.__getattribute__")))
    (ggB : PySem.W.findIn K (.ref CB) "__getattr__" = some none)
    (hdB : PySem.W.hasDictIn K CB = true)
    (icB : PySem.W.isClsIn K CB = true)
    (sbB : PySem.W.subIn K (.ref CB) (.ref CB) = some true)
    (z_super : PySem.W.nsIn K mainGlobals "super" = some (none))
    (gL : PySem.W.nsIn K mainGlobals "LETTERS" = some (some (.str zL tL)))
    (hL : zL = lettersS)
    (gD : PySem.W.nsIn K mainGlobals "DIGITS" = some (some (.str zD tD)))
    (hD : zD = digitsS)
    (gN : PySem.W.nsIn K mainGlobals "NAME_LENGTH" = some (some (.int iN tN)))
    (hN : iN = 8)
    (gT : PySem.W.nsIn K mainGlobals "TOO_LONG" = some (some (.int iT tT)))
    (hT : iT = 10 ^ 30)
    (gM : PySem.W.nsIn K mainGlobals "MOST_SEATS" = some (some (.int iM tM)))
    (hM : iM = 4)
    (gDe : PySem.W.nsIn K mainGlobals "MOST_DEPTH" = some (some (.int iDe tDe)))
    (hDe : iDe = 20)
    (gSi : PySem.W.nsIn K mainGlobals "MOST_SIZE" = some (some (.int iSi tSi)))
    (hSi : iSi = 400)
    (gR : PySem.W.nsIn K mainGlobals "RESERVED" = some (some (.ref aR)))
    (lR : K.lookup aR = some ⟨.type "tuple", odR, .seq itsR nR, slR⟩)
    (sR : itsR.size ≤ 1000)
    (hR : Vals reservedV itsR.toList)
    (z_isinstance : PySem.W.nsIn K mainGlobals "isinstance" = some (none))
    (z_str : PySem.W.nsIn K mainGlobals "str" = some (none))
    (z_int : PySem.W.nsIn K mainGlobals "int" = some (none))
    (z_bool : PySem.W.nsIn K mainGlobals "bool" = some (none))
    (z_len : PySem.W.nsIn K mainGlobals "len" = some (none))
    (z_all : PySem.W.nsIn K mainGlobals "all" = some (none))
    (aC : PySem.W.nsIn K mainGlobals "Process" = some (some (.ref C)))
    (pg : PySem.W.plainGet K C Str.empty = true)
    (hd : PySem.W.hasDictIn K C = true)
    (po : PySem.W.plainOver K C = true)
    (sa : PySem.W.findIn K (.ref C) "__setattr__" = some (some (.builtin "object.__setattr__")))
    (n_kind : PySem.W.findIn K (.ref C) "kind" = some none)
    (n_parts : PySem.W.findIn K (.ref C) "parts" = some none)
    (n_depth : PySem.W.findIn K (.ref C) "depth" = some none)
    (n_size : PySem.W.findIn K (.ref C) "size" = some none)
    (mk : PySem.W.makesIn K C = true)
    (kc : PySem.W.keepIn K (.ref C) = true)
    (ha : PySem.W.findIn K (.ref C) "__class__" = some (some (.builtin "object.__class__")))
    (hn : PySem.W.specialIn K (.builtin "object.__class__") "__get__" = some (some (.builtin "getset_descriptor.__get__")))
    (ht : PySem.W.takesIn K (.builtin "object.__class__") = some true)
    (hm : PySem.W.mroIn K C (.type "object") = some true)
    (ic : PySem.W.isClsIn K C = true)
    (ty : PySem.W.typeIn K (.ref C) = some (.type "type"))
    (no_str : PySem.W.subIn K (.type "str") (.ref C) = some false)
    (no_int : PySem.W.subIn K (.type "int") (.ref C) = some false)
    (no_tuple : PySem.W.subIn K (.type "tuple") (.ref C) = some false)
    (z_sum : PySem.W.nsIn K mainGlobals "sum" = some (none))
    (z_max : PySem.W.nsIn K mainGlobals "max" = some (none))
    (z_tuple : PySem.W.nsIn K mainGlobals "tuple" = some (none))
    (minit : PySem.W.findIn K (.ref C) "__init__" = some (some (.ref finit)))
    (iinit : PySem.W.isFn K (.ref finit) = true)
    (linit : K.lookup finit = some ⟨ocinit, odinit, .func (PySem.W.fnOf "__init__" "Process.__init__" (defArgs (inClass (topS 26) 0)) (defBody (inClass (topS 26) 0)) (defScope (inClass (topS 26) 0)) .none kVinit dcinit pminit aninit cdinit ctinit), slinit⟩)
    (cinit : PySem.W.codeIn K cdinit "Process.__init__" = true)
    (kinit : PySem.W.keepIn K (.ref finit) = true)
    (aisname : PySem.W.nsIn K mainGlobals "is_name" = some (some (.ref fisname)))
    (lisname : K.lookup fisname = some ⟨ocisname, odisname, .func (PySem.W.fnOf "is_name" "is_name" (defArgs (topS 7)) (defBody (topS 7)) (defScope (topS 7)) .none kVisname dcisname pmisname anisname cdisname ctisname), slisname⟩)
    (cisname : PySem.W.codeIn K cdisname "is_name" = true)
    (kisname : PySem.W.keepIn K (.ref fisname) = true)
    (aisint : PySem.W.nsIn K mainGlobals "is_int" = some (some (.ref fisint)))
    (lisint : K.lookup fisint = some ⟨ocisint, odisint, .func (PySem.W.fnOf "is_int" "is_int" (defArgs (topS 9)) (defBody (topS 9)) (defScope (topS 9)) .none kVisint dcisint pmisint anisint cdisint ctisint), slisint⟩)
    (cisint : PySem.W.codeIn K cdisint "is_int" = true)
    (kisint : PySem.W.keepIn K (.ref fisint) = true)
    (aisshort : PySem.W.nsIn K mainGlobals "is_short" = some (some (.ref fisshort)))
    (lisshort : K.lookup fisshort = some ⟨ocisshort, odisshort, .func (PySem.W.fnOf "is_short" "is_short" (defArgs (topS 10)) (defBody (topS 10)) (defScope (topS 10)) .none kVisshort dcisshort pmisshort anisshort cdisshort ctisshort), slisshort⟩)
    (cisshort : PySem.W.codeIn K cdisshort "is_short" = true)
    (kisshort : PySem.W.keepIn K (.ref fisshort) = true)
    (aisop : PySem.W.nsIn K mainGlobals "is_operand" = some (some (.ref fisop)))
    (lisop : K.lookup fisop = some ⟨ocisop, odisop, .func (PySem.W.fnOf "is_operand" "is_operand" (defArgs (topS 11)) (defBody (topS 11)) (defScope (topS 11)) .none kVisop dcisop pmisop anisop cdisop ctisop), slisop⟩)
    (cisop : PySem.W.codeIn K cdisop "is_operand" = true)
    (kisop : PySem.W.keepIn K (.ref fisop) = true)
    (ademand : PySem.W.nsIn K mainGlobals "demand" = some (some (.ref fdemand)))
    (ldemand : K.lookup fdemand = some ⟨ocdemand, oddemand, .func (PySem.W.fnOf "demand" "demand" (defArgs (topS 22)) (defBody (topS 22)) (defScope (topS 22)) .none kVdemand dcdemand pmdemand andemand cddemand ctdemand), sldemand⟩)
    (cdemand : PySem.W.codeIn K cddemand "demand" = true)
    (kdemand : PySem.W.keepIn K (.ref fdemand) = true)
    (ainner : PySem.W.nsIn K mainGlobals "inner_processes" = some (some (.ref finner)))
    (linner : K.lookup finner = some ⟨ocinner, odinner, .func (PySem.W.fnOf "inner_processes" "inner_processes" (defArgs (topS 23)) (defBody (topS 23)) (defScope (topS 23)) .none kVinner dcinner pminner aninner cdinner ctinner), slinner⟩)
    (cinner : PySem.W.codeIn K cdinner "inner_processes" = true)
    (kinner : PySem.W.keepIn K (.ref finner) = true)
    (asize : PySem.W.nsIn K mainGlobals "size_of" = some (some (.ref fsize)))
    (lsize : K.lookup fsize = some ⟨ocsize, odsize, .func (PySem.W.fnOf "size_of" "size_of" (defArgs (topS 24)) (defBody (topS 24)) (defScope (topS 24)) .none kVsize dcsize pmsize ansize cdsize ctsize), slsize⟩)
    (csize : PySem.W.codeIn K cdsize "size_of" = true)
    (ksize : PySem.W.keepIn K (.ref fsize) = true)
    (adepth : PySem.W.nsIn K mainGlobals "depth_of" = some (some (.ref fdepth)))
    (ldepth : K.lookup fdepth = some ⟨ocdepth, oddepth, .func (PySem.W.fnOf "depth_of" "depth_of" (defArgs (topS 25)) (defBody (topS 25)) (defScope (topS 25)) .none kVdepth dcdepth pmdepth andepth cddepth ctdepth), sldepth⟩)
    (cdepth : PySem.W.codeIn K cddepth "depth_of" = true)
    (kdepth : PySem.W.keepIn K (.ref fdepth) = true)
    (gOp : PySem.W.nsIn K mainGlobals "MOST_OPERANDS" = some (some (.int iOp tOp)))
    (hOp : iOp = 4)
    (gOf : PySem.W.nsIn K mainGlobals "MOST_OFFERS" = some (some (.int iOf tOf)))
    (hOf : iOf = 6)
    (rdC : PySem.W.readsIn K C (.type "type") = true)
    (gaC : PySem.W.specialIn K (.ref C) "__getattribute__" = some (some (.builtin "type.__getattribute__")))
    (sstop : PySem.W.findCls K (.ref C) (.type "type") "stop" = some (.get (.builtin "staticmethod.__get__") (.ref pstop) .none (.ref C)))
    (rstop : PySem.W.recIn K pstop "staticmethod" = some (.ref fststop :: reststop))
    (lststop : K.lookup fststop = some ⟨ocststop, odststop, .func (PySem.W.fnOf "stop" "Process.stop" (defArgs (inClass (topS 26) 1)) (defBody (inClass (topS 26) 1)) (defScope (inClass (topS 26) 1)) .none kVststop dcststop pmststop anststop cdststop ctststop), slststop⟩)
    (cststop : PySem.W.codeIn K cdststop "Process.stop" = true)
    (kststop : PySem.W.keepIn K (.ref fststop) = true)
    (soffer : PySem.W.findCls K (.ref C) (.type "type") "offer" = some (.get (.builtin "staticmethod.__get__") (.ref poffer) .none (.ref C)))
    (roffer : PySem.W.recIn K poffer "staticmethod" = some (.ref fstoffer :: restoffer))
    (lstoffer : K.lookup fstoffer = some ⟨ocstoffer, odstoffer, .func (PySem.W.fnOf "offer" "Process.offer" (defArgs (inClass (topS 26) 2)) (defBody (inClass (topS 26) 2)) (defScope (inClass (topS 26) 2)) .none kVstoffer dcstoffer pmstoffer anstoffer cdstoffer ctstoffer), slstoffer⟩)
    (cstoffer : PySem.W.codeIn K cdstoffer "Process.offer" = true)
    (kstoffer : PySem.W.keepIn K (.ref fstoffer) = true)
    (snew : PySem.W.findCls K (.ref C) (.type "type") "new" = some (.get (.builtin "staticmethod.__get__") (.ref pnew) .none (.ref C)))
    (rnew : PySem.W.recIn K pnew "staticmethod" = some (.ref fstnew :: restnew))
    (lstnew : K.lookup fstnew = some ⟨ocstnew, odstnew, .func (PySem.W.fnOf "new" "Process.new" (defArgs (inClass (topS 26) 3)) (defBody (inClass (topS 26) 3)) (defScope (inClass (topS 26) 3)) .none kVstnew dcstnew pmstnew anstnew cdstnew ctstnew), slstnew⟩)
    (cstnew : PySem.W.codeIn K cdstnew "Process.new" = true)
    (kstnew : PySem.W.keepIn K (.ref fstnew) = true)
    (swhen : PySem.W.findCls K (.ref C) (.type "type") "when" = some (.get (.builtin "staticmethod.__get__") (.ref pwhen) .none (.ref C)))
    (rwhen : PySem.W.recIn K pwhen "staticmethod" = some (.ref fstwhen :: restwhen))
    (lstwhen : K.lookup fstwhen = some ⟨ocstwhen, odstwhen, .func (PySem.W.fnOf "when" "Process.when" (defArgs (inClass (topS 26) 4)) (defBody (inClass (topS 26) 4)) (defScope (inClass (topS 26) 4)) .none kVstwhen dcstwhen pmstwhen anstwhen cdstwhen ctstwhen), slstwhen⟩)
    (cstwhen : PySem.W.codeIn K cdstwhen "Process.when" = true)
    (kstwhen : PySem.W.keepIn K (.ref fstwhen) = true)
    (scall : PySem.W.findCls K (.ref C) (.type "type") "call" = some (.get (.builtin "staticmethod.__get__") (.ref pcall) .none (.ref C)))
    (rcall : PySem.W.recIn K pcall "staticmethod" = some (.ref fstcall :: restcall))
    (lstcall : K.lookup fstcall = some ⟨ocstcall, odstcall, .func (PySem.W.fnOf "call" "Process.call" (defArgs (inClass (topS 26) 5)) (defBody (inClass (topS 26) 5)) (defScope (inClass (topS 26) 5)) .none kVstcall dcstcall pmstcall anstcall cdstcall ctstcall), slstcall⟩)
    (cstcall : PySem.W.codeIn K cdstcall "Process.call" = true)
    (kstcall : PySem.W.keepIn K (.ref fstcall) = true)
    (madd : PySem.W.findIn K (.ref C) "__add__" = some (some (.ref fadd)))
    (iadd : PySem.W.isFn K (.ref fadd) = true)
    (ladd : K.lookup fadd = some ⟨ocadd, odadd, .func (PySem.W.fnOf "__add__" "Process.__add__" (defArgs (inClass (topS 26) 7)) (defBody (inClass (topS 26) 7)) (defScope (inClass (topS 26) 7)) .none kVadd dcadd pmadd anadd cdadd ctadd), sladd⟩)
    (cadd : PySem.W.codeIn K cdadd "Process.__add__" = true)
    (kadd : PySem.W.keepIn K (.ref fadd) = true)
    (mpeq : PySem.W.findIn K (.ref C) "__eq__" = some (some (.ref fpeq)))
    (ipeq : PySem.W.isFn K (.ref fpeq) = true)
    (lpeq : K.lookup fpeq = some ⟨ocpeq, odpeq, .func (PySem.W.fnOf "__eq__" "Process.__eq__" (defArgs (inClass (topS 26) 6)) (defBody (inClass (topS 26) 6)) (defScope (inClass (topS 26) 6)) .none kVpeq dcpeq pmpeq anpeq cdpeq ctpeq), slpeq⟩)
    (cpeq : PySem.W.codeIn K cdpeq "Process.__eq__" = true)
    (kpeq : PySem.W.keepIn K (.ref fpeq) = true)
    (aarenames : PySem.W.nsIn K mainGlobals "are_names" = some (some (.ref farenames)))
    (larenames : K.lookup farenames = some ⟨ocarenames, odarenames, .func (PySem.W.fnOf "are_names" "are_names" (defArgs (topS 8)) (defBody (topS 8)) (defScope (topS 8)) .none kVarenames dcarenames pmarenames anarenames cdarenames ctarenames), slarenames⟩)
    (carenames : PySem.W.codeIn K cdarenames "are_names" = true)
    (karenames : PySem.W.keepIn K (.ref farenames) = true)
    (aisseats : PySem.W.nsIn K mainGlobals "is_seats" = some (some (.ref fisseats)))
    (lisseats : K.lookup fisseats = some ⟨ocisseats, odisseats, .func (PySem.W.fnOf "is_seats" "is_seats" (defArgs (topS 12)) (defBody (topS 12)) (defScope (topS 12)) .none kVisseats dcisseats pmisseats anisseats cdisseats ctisseats), slisseats⟩)
    (cisseats : PySem.W.codeIn K cdisseats "is_seats" = true)
    (kisseats : PySem.W.keepIn K (.ref fisseats) = true)
    (aischoice : PySem.W.nsIn K mainGlobals "is_choice" = some (some (.ref fischoice)))
    (lischoice : K.lookup fischoice = some ⟨ocischoice, odischoice, .func (PySem.W.fnOf "is_choice" "is_choice" (defArgs (topS 28)) (defBody (topS 28)) (defScope (topS 28)) .none kVischoice dcischoice pmischoice anischoice cdischoice ctischoice), slischoice⟩)
    (cischoice : PySem.W.codeIn K cdischoice "is_choice" = true)
    (kischoice : PySem.W.keepIn K (.ref fischoice) = true)
    (acellat : PySem.W.nsIn K mainGlobals "_law_cell_at" = some (some (.ref fcellat)))
    (lcellat : K.lookup fcellat = some ⟨occellat, odcellat, .func (PySem.W.fnOf "_law_cell_at" "_law_cell_at" (defArgs (topS 32)) (defBody (topS 32)) (defScope (topS 32)) .none kVcellat dccellat pmcellat ancellat cdcellat ctcellat), slcellat⟩)
    (ccellat : PySem.W.codeIn K cdcellat "_law_cell_at" = true)
    (kcellat : PySem.W.keepIn K (.ref fcellat) = true)
    (amixed : PySem.W.nsIn K mainGlobals "_law_mixed" = some (some (.ref fmixed)))
    (lmixed : K.lookup fmixed = some ⟨ocmixed, odmixed, .func (PySem.W.fnOf "_law_mixed" "_law_mixed" (defArgs (topS 33)) (defBody (topS 33)) (defScope (topS 33)) .none kVmixed dcmixed pmmixed anmixed cdmixed ctmixed), slmixed⟩)
    (cmixed : PySem.W.codeIn K cdmixed "_law_mixed" = true)
    (kmixed : PySem.W.keepIn K (.ref fmixed) = true)
    (arow : PySem.W.nsIn K mainGlobals "_law_row" = some (some (.ref frow)))
    (lrow : K.lookup frow = some ⟨ocrow, odrow, .func (PySem.W.fnOf "_law_row" "_law_row" (defArgs (topS 34)) (defBody (topS 34)) (defScope (topS 34)) .none kVrow dcrow pmrow anrow cdrow ctrow), slrow⟩)
    (crow : PySem.W.codeIn K cdrow "_law_row" = true)
    (krow : PySem.W.keepIn K (.ref frow) = true)
    (aword : PySem.W.nsIn K mainGlobals "_law_word" = some (some (.ref fword)))
    (lword : K.lookup fword = some ⟨ocword, odword, .func (PySem.W.fnOf "_law_word" "_law_word" (defArgs (topS 35)) (defBody (topS 35)) (defScope (topS 35)) .none kVword dcword pmword anword cdword ctword), slword⟩)
    (cword : PySem.W.codeIn K cdword "_law_word" = true)
    (kword : PySem.W.keepIn K (.ref fword) = true)
    (alop : PySem.W.nsIn K mainGlobals "_law_operand" = some (some (.ref flop)))
    (llop : K.lookup flop = some ⟨oclop, odlop, .func (PySem.W.fnOf "_law_operand" "_law_operand" (defArgs (topS 36)) (defBody (topS 36)) (defScope (topS 36)) .none kVlop dclop pmlop anlop cdlop ctlop), sllop⟩)
    (clop : PySem.W.codeIn K cdlop "_law_operand" = true)
    (klop : PySem.W.keepIn K (.ref flop) = true)
    (aloff : PySem.W.nsIn K mainGlobals "_law_offer" = some (some (.ref floff)))
    (lloff : K.lookup floff = some ⟨ocloff, odloff, .func (PySem.W.fnOf "_law_offer" "_law_offer" (defArgs (topS 37)) (defBody (topS 37)) (defScope (topS 37)) .none kVloff dcloff pmloff anloff cdloff ctloff), slloff⟩)
    (cloff : PySem.W.codeIn K cdloff "_law_offer" = true)
    (kloff : PySem.W.keepIn K (.ref floff) = true)
    (aterm : PySem.W.nsIn K mainGlobals "_law_term" = some (some (.ref fterm)))
    (lterm : K.lookup fterm = some ⟨octerm, odterm, .func (PySem.W.fnOf "_law_term" "_law_term" (defArgs (topS 38)) (defBody (topS 38)) (defScope (topS 38)) .none kVterm dcterm pmterm anterm cdterm ctterm), slterm⟩)
    (cterm : PySem.W.codeIn K cdterm "_law_term" = true)
    (kterm : PySem.W.keepIn K (.ref fterm) = true)
    (amade : PySem.W.nsIn K mainGlobals "_law_made" = some (some (.ref fmade)))
    (lmade : K.lookup fmade = some ⟨ocmade, odmade, .func (PySem.W.fnOf "_law_made" "_law_made" (defArgs (topS 39)) (defBody (topS 39)) (defScope (topS 39)) .none kVmade dcmade pmmade anmade cdmade ctmade), slmade⟩)
    (cmade : PySem.W.codeIn K cdmade "_law_made" = true)
    (kmade : PySem.W.keepIn K (.ref fmade) = true)
    (awdC : PySem.W.nsIn K mainGlobals "_law_word_changed" = some (some (.ref fwdC)))
    (lwdC : K.lookup fwdC = some ⟨ocwdC, odwdC, .func (PySem.W.fnOf "_law_word_changed" "_law_word_changed" (defArgs (topS 40)) (defBody (topS 40)) (defScope (topS 40)) .none kVwdC dcwdC pmwdC anwdC cdwdC ctwdC), slwdC⟩)
    (cwdC : PySem.W.codeIn K cdwdC "_law_word_changed" = true)
    (kwdC : PySem.W.keepIn K (.ref fwdC) = true)
    (aopC : PySem.W.nsIn K mainGlobals "_law_operand_changed" = some (some (.ref fopC)))
    (lopC : K.lookup fopC = some ⟨ocopC, odopC, .func (PySem.W.fnOf "_law_operand_changed" "_law_operand_changed" (defArgs (topS 41)) (defBody (topS 41)) (defScope (topS 41)) .none kVopC dcopC pmopC anopC cdopC ctopC), slopC⟩)
    (copC : PySem.W.codeIn K cdopC "_law_operand_changed" = true)
    (kopC : PySem.W.keepIn K (.ref fopC) = true)
    (aofC : PySem.W.nsIn K mainGlobals "_law_offers_changed" = some (some (.ref fofC)))
    (lofC : K.lookup fofC = some ⟨ocofC, odofC, .func (PySem.W.fnOf "_law_offers_changed" "_law_offers_changed" (defArgs (topS 42)) (defBody (topS 42)) (defScope (topS 42)) .none kVofC dcofC pmofC anofC cdofC ctofC), slofC⟩)
    (cofC : PySem.W.codeIn K cdofC "_law_offers_changed" = true)
    (kofC : PySem.W.keepIn K (.ref fofC) = true)
    (achg : PySem.W.nsIn K mainGlobals "_law_changed" = some (some (.ref fchg)))
    (lchg : K.lookup fchg = some ⟨occhg, odchg, .func (PySem.W.fnOf "_law_changed" "_law_changed" (defArgs (topS 43)) (defBody (topS 43)) (defScope (topS 43)) .none kVchg dcchg pmchg anchg cdchg ctchg), slchg⟩)
    (cchg : PySem.W.codeIn K cdchg "_law_changed" = true)
    (kchg : PySem.W.keepIn K (.ref fchg) = true)
    (alaw : PySem.W.nsIn K mainGlobals "law" = some (some (.ref flaw)))
    (llaw : K.lookup flaw = some ⟨oclaw, odlaw, .func (PySem.W.fnOf "law" "law" (defArgs (topS 44)) (defBody (topS 44)) (defScope (topS 44)) .none kVlaw dclaw pmlaw anlaw cdlaw ctlaw), sllaw⟩)
    (claw : PySem.W.codeIn K cdlaw "law" = true)
    (klaw : PySem.W.keepIn K (.ref flaw) = true)
    (opF : PySem.W.selfFirst K C = true)
    (neC : PySem.W.findIn K (.ref C) "__ne__" = some (some (.builtin "object.__ne__")))
    (obC : PySem.W.subIn K (.ref C) (.type "object") = some true)
    (z_abs : PySem.W.nsIn K mainGlobals "abs" = some (none))
    (z_range : PySem.W.nsIn K mainGlobals "range" = some (none))
    (z_set : PySem.W.nsIn K mainGlobals "set" = some (none))
    (z_list : PySem.W.nsIn K mainGlobals "list" = some (none)) :
    ∃ fd : FuncData, (∀ (s : Shared) (v : Value), BindsTo s fd ⟨[v], []⟩ [("_law_script", v)]) ∧ ∀ base : Heap, K.In base → base.Ns mainGlobals mg → FnOk P w K mg base CX0 13 fa fd ["_law_script"] (spLaw K) := by
  have e := hfa.symm.trans (PySem.W.mg_of X G alaw)
  cases e
  subst hL hD hN hT hM hDe hSi hOp hOf
  have TB : ErrTxt P K mg "BadTerm" CB fB := { gC := PySem.W.mg_of X G aB, cls := ⟨nmB, qB, NB, bsB, _, snB, subB, abB, colB, ddB, m0, m1, m2, m3, m5, xB, rfl⟩, ei := eiB, sa := saB, noN := noB, iC := iB, tC := tB, kC := kB, exC := exB, veC := veB, tyC := tyB, slf := mroB, sup := spB, opq := opq, gs := PySem.W.mg_none_of X G z_super, top := topB, fn := ⟨ocB, odB, anB, kVB, dcB, pmB, ctB, slB, _, cda, cc, ccl, clB, cdd, cld, ccs, csl, vsB, fileB, tfB, zM, b1, b2, q0, r0, r1, r2, r3, r4, r5, r6, r7, r8, lB, cB, oB, vB, fB1, ceB, zMB, lnB⟩ }
  have B : BasT K mg := { letters := ⟨_, PySem.W.mg_of X G gL, _, rfl⟩, digits := ⟨_, PySem.W.mg_of X G gD, _, rfl⟩, nlen := ⟨_, PySem.W.mg_of X G gN, _, rfl⟩, reserved := ⟨aR, PySem.W.mg_of X G gR, fun H => .inr ⟨_, _, _, lR, rfl, rfl, by rw [sizeLine_eq]; omega, hR⟩⟩, toolong := ⟨_, PySem.W.mg_of X G gT, _, rfl⟩, seats := ⟨_, PySem.W.mg_of X G gM, _, rfl⟩, isinst := PySem.W.mg_none_of X G z_isinstance, str := PySem.W.mg_none_of X G z_str, int := PySem.W.mg_none_of X G z_int, bool := PySem.W.mg_none_of X G z_bool, len := PySem.W.mg_none_of X G z_len, all := PySem.W.mg_none_of X G z_all }
  have T : TerT K mg C CB := { cl := ⟨pg, hd, po, sa⟩, nK := n_kind, nP := n_parts, nD := n_depth, nS := n_size, mgC := PySem.W.mg_of X G aC, kStr := kit_no ic ty no_str, kInt := kit_no ic ty no_int, kTup := kit_no ic ty no_tuple, ha := ha, hn := hn, htk := ht, hm := hm, sum := PySem.W.mg_none_of X G z_sum, max := PySem.W.mg_none_of X G z_max, tuple := PySem.W.mg_none_of X G z_tuple, depth := ⟨_, PySem.W.mg_of X G gDe, _, rfl⟩, size := ⟨_, PySem.W.mg_of X G gSi, _, rfl⟩ }
  have Finit := fun_mk (st := (inClass (topS 26) 0)) linit cinit kinit
  have Binit := Finit.binds (ps := ["self", "kind", "parts"]) fun _ _ _ _ _ _ us hl => match us, hl with | [_, _, _], _ => rfl
  have Fisname := fun_mk (st := (topS 7)) lisname cisname kisname
  have Bisname := Fisname.binds (ps := ["text"]) fun _ _ _ _ _ _ us hl => match us, hl with | [_], _ => rfl
  have Fisint := fun_mk (st := (topS 9)) lisint cisint kisint
  have Bisint := Fisint.binds (ps := ["value"]) fun _ _ _ _ _ _ us hl => match us, hl with | [_], _ => rfl
  have Fisshort := fun_mk (st := (topS 10)) lisshort cisshort kisshort
  have Bisshort := Fisshort.binds (ps := ["value"]) fun _ _ _ _ _ _ us hl => match us, hl with | [_], _ => rfl
  have Fisop := fun_mk (st := (topS 11)) lisop cisop kisop
  have Bisop := Fisop.binds (ps := ["part"]) fun _ _ _ _ _ _ us hl => match us, hl with | [_], _ => rfl
  have Fdemand := fun_mk (st := (topS 22)) ldemand cdemand kdemand
  have Bdemand := Fdemand.binds (ps := ["allowed", "field"]) fun _ _ _ _ _ _ us hl => match us, hl with | [_, _], _ => rfl
  have Finner := fun_mk (st := (topS 23)) linner cinner kinner
  have Binner := Finner.binds (ps := ["kind", "parts"]) fun _ _ _ _ _ _ us hl => match us, hl with | [_, _], _ => rfl
  have Fsize := fun_mk (st := (topS 24)) lsize csize ksize
  have Bsize := Fsize.binds (ps := ["kind", "parts"]) fun _ _ _ _ _ _ us hl => match us, hl with | [_, _], _ => rfl
  have Fdepth := fun_mk (st := (topS 25)) ldepth cdepth kdepth
  have Bdepth := Fdepth.binds (ps := ["kind", "parts"]) fun _ _ _ _ _ _ us hl => match us, hl with | [_, _], _ => rfl
  have Fststop := fun_mk (st := (inClass (topS 26) 1)) lststop cststop kststop
  have Bststop := Fststop.binds (ps := []) fun _ _ _ _ _ _ us hl => match us, hl with | [], _ => rfl
  have Fstoffer := fun_mk (st := (inClass (topS 26) 2)) lstoffer cstoffer kstoffer
  have Bstoffer := Fstoffer.binds (ps := ["channel", "seat", "seats", "operand", "names", "rest"]) fun _ _ _ _ _ _ us hl => match us, hl with | [_, _, _, _, _, _], _ => rfl
  have Fstnew := fun_mk (st := (inClass (topS 26) 3)) lstnew cstnew kstnew
  have Bstnew := Fstnew.binds (ps := ["name", "seats", "rest"]) fun _ _ _ _ _ _ us hl => match us, hl with | [_, _, _], _ => rfl
  have Fstwhen := fun_mk (st := (inClass (topS 26) 4)) lstwhen cstwhen kstwhen
  have Bstwhen := Fstwhen.binds (ps := ["left", "right", "yes", "no"]) fun _ _ _ _ _ _ us hl => match us, hl with | [_, _, _, _], _ => rfl
  have Fstcall := fun_mk (st := (inClass (topS 26) 5)) lstcall cstcall kstcall
  have Bstcall := Fstcall.binds (ps := ["name", "operands"]) fun _ _ _ _ _ _ us hl => match us, hl with | [_, _], _ => rfl
  have Fadd := fun_mk (st := (inClass (topS 26) 7)) ladd cadd kadd
  have Badd := Fadd.binds (ps := ["self", "other"]) fun _ _ _ _ _ _ us hl => match us, hl with | [_, _], _ => rfl
  have Fpeq := fun_mk (st := (inClass (topS 26) 6)) lpeq cpeq kpeq
  have Bpeq := Fpeq.binds (ps := ["self", "other"]) fun _ _ _ _ _ _ us hl => match us, hl with | [_, _], _ => rfl
  have Farenames := fun_mk (st := (topS 8)) larenames carenames karenames
  have Barenames := Farenames.binds (ps := ["texts"]) fun _ _ _ _ _ _ us hl => match us, hl with | [_], _ => rfl
  have Fisseats := fun_mk (st := (topS 12)) lisseats cisseats kisseats
  have Bisseats := Fisseats.binds (ps := ["count"]) fun _ _ _ _ _ _ us hl => match us, hl with | [_], _ => rfl
  have Fischoice := fun_mk (st := (topS 28)) lischoice cischoice kischoice
  have Bischoice := Fischoice.binds (ps := ["term"]) fun _ _ _ _ _ _ us hl => match us, hl with | [_], _ => rfl
  have Fcellat := fun_mk (st := (topS 32)) lcellat ccellat kcellat
  have Bcellat := Fcellat.binds (ps := ["_law_script", "_law_k"]) fun _ _ _ _ _ _ us hl => match us, hl with | [_, _], _ => rfl
  have Fmixed := fun_mk (st := (topS 33)) lmixed cmixed kmixed
  have Bmixed := Fmixed.binds (ps := ["_law_cell", "_law_k"]) fun _ _ _ _ _ _ us hl => match us, hl with | [_, _], _ => rfl
  have Frow := fun_mk (st := (topS 34)) lrow crow krow
  have Brow := Frow.binds (ps := ["_law_cell", "_law_many"]) fun _ _ _ _ _ _ us hl => match us, hl with | [_, _], _ => rfl
  have Fword := fun_mk (st := (topS 35)) lword cword kword
  have Bword := Fword.binds (ps := ["_law_draw"]) fun _ _ _ _ _ _ us hl => match us, hl with | [_], _ => rfl
  have Flop := fun_mk (st := (topS 36)) llop clop klop
  have Blop := Flop.binds (ps := ["_law_draw"]) fun _ _ _ _ _ _ us hl => match us, hl with | [_], _ => rfl
  have Floff := fun_mk (st := (topS 37)) lloff cloff kloff
  have Bloff := Floff.binds (ps := ["_law_row_here", "_law_at", "_law_rest"]) fun _ _ _ _ _ _ us hl => match us, hl with | [_, _, _], _ => rfl
  have Fterm := fun_mk (st := (topS 38)) lterm cterm kterm
  have Bterm := Fterm.binds (ps := ["_law_row_here", "_law_node"]) fun _ _ _ _ _ _ us hl => match us, hl with | [_, _], _ => rfl
  have Fmade := fun_mk (st := (topS 39)) lmade cmade kmade
  have Bmade := Fmade.binds (ps := ["_law_term_here"]) fun _ _ _ _ _ _ us hl => match us, hl with | [_], _ => rfl
  have FwdC := fun_mk (st := (topS 40)) lwdC cwdC kwdC
  have BwdC := FwdC.binds (ps := ["_law_word_here"]) fun _ _ _ _ _ _ us hl => match us, hl with | [_], _ => rfl
  have FopC := fun_mk (st := (topS 41)) lopC copC kopC
  have BopC := FopC.binds (ps := ["_law_operand_here"]) fun _ _ _ _ _ _ us hl => match us, hl with | [_], _ => rfl
  have FofC := fun_mk (st := (topS 42)) lofC cofC kofC
  have BofC := FofC.binds (ps := ["_law_offer_here"]) fun _ _ _ _ _ _ us hl => match us, hl with | [_], _ => rfl
  have Fchg := fun_mk (st := (topS 43)) lchg cchg kchg
  have Bchg := Fchg.binds (ps := ["_law_term_here"]) fun _ _ _ _ _ _ us hl => match us, hl with | [_], _ => rfl
  have Flaw := fun_mk (st := (topS 44)) llaw claw klaw
  have Blaw := Flaw.binds (ps := ["_law_script"]) fun _ _ _ _ _ _ us hl => match us, hl with | [_], _ => rfl
  refine ⟨PySem.W.fnOf "law" "law" (defArgs (topS 44)) (defBody (topS 44)) (defScope (topS 44)) .none kVlaw dclaw pmlaw anlaw cdlaw ctlaw, fun s v => .of_eq rfl, fun base _ _ => ?_⟩
  have Gisname : CalX P w K mg base CX0 1 "is_name" (spPred nameV) := ⟨_, _, _, ok_is_name Fisname B, PySem.W.mg_of X G aisname, kisname, Bisname⟩
  have Gisint : CalX P w K mg base CX0 1 "is_int" (spPred intV) := ⟨_, _, _, ok_is_int Fisint B, PySem.W.mg_of X G aisint, kisint, Bisint⟩
  have Gisshort : CalX P w K mg base CX0 2 "is_short" (spPred shortV) := ⟨_, _, _, ok_is_short Fisshort B Gisint, PySem.W.mg_of X G aisshort, kisshort, Bisshort⟩
  have Gisop : CalX P w K mg base CX0 3 "is_operand" (spPred operandV) := ⟨_, _, _, ok_is_operand Fisop Gisshort Gisname, PySem.W.mg_of X G aisop, kisop, Bisop⟩
  have Ginner : CalX P w K mg base CX0 1 "inner_processes" (spInner C) := ⟨_, _, _, ok_inner Finner B T, PySem.W.mg_of X G ainner, kinner, Binner⟩
  have Gdepth : CalX P w K mg base CX0 2 "depth_of" (spSize C Pr.depth) := ⟨_, _, _, ok_depth Fdepth T Ginner, PySem.W.mg_of X G adepth, kdepth, Bdepth⟩
  have Gsize : CalX P w K mg base CX0 2 "size_of" (spSize C Pr.size) := ⟨_, _, _, ok_size Fsize B T Ginner, PySem.W.mg_of X G asize, ksize, Bsize⟩
  have OD : FnOk P w K mg base (L2.CX P w) 2 fdemand _ ["allowed", "field"] (spDemand CB) := ok_demand Fdemand (raises_bt (k := 1) (by decide) TB)
  have G2d : CalX P w K mg base (L2.CX P w) 2 "demand" (spDemand CB) := ⟨_, _, _, OD, PySem.W.mg_of X G ademand, kdemand, Bdemand⟩
  have G3d : CalX P w K mg base (L2.CX P w) 3 "demand" (spDemand CB) := ⟨_, _, _, OD.mono (by decide), PySem.W.mg_of X G ademand, kdemand, Bdemand⟩
  have GM : MakX P w K mg base (L2.CX P w) 3 "Process" C (spInit C CB) := ⟨_, _, _, ⟨mk, minit, iinit, kc⟩, ok_init Finit T Gdepth Gsize G2d (Nat.le_refl _), PySem.W.mg_of X G aC, Binit⟩
  have L : LawT K mg := { len := PySem.W.mg_none_of X G z_len, int := PySem.W.mg_none_of X G z_int, abs := PySem.W.mg_none_of X G z_abs, range := PySem.W.mg_none_of X G z_range }
  have Gcellat : CalX P w K mg base CX0 1 "_law_cell_at" (spCellAt K) := ⟨_, _, _, ok_cell_at Fcellat L, PySem.W.mg_of X G acellat, kcellat, Bcellat⟩
  have Gmixed : CalX P w K mg base CX0 1 "_law_mixed" spMixed := ⟨_, _, _, ok_mixed Fmixed L, PySem.W.mg_of X G amixed, kmixed, Bmixed⟩
  have Grow : CalX P w K mg base CX0 2 "_law_row" spRow := ⟨_, _, _, ok_row Frow L Gmixed, PySem.W.mg_of X G arow, krow, Brow⟩
  have Garenames : CalX P w K mg base CX0 2 "are_names" spNames := ⟨_, _, _, ok_are_names Farenames B (PySem.W.mg_none_of X G z_set) Gisname, PySem.W.mg_of X G aarenames, karenames, Barenames⟩
  have Gisseats : CalX P w K mg base CX0 2 "is_seats" (spPred seatsV) := ⟨_, _, _, ok_is_seats Fisseats B Gisint, PySem.W.mg_of X G aisseats, kisseats, Bisseats⟩
  have M : MakT P w K mg base C CB 3 := { make := GM, dem := G3d, name := Gisname, seats := Gisseats, operand := Gisop, int := Gisint, names := Garenames, mops := ⟨_, PySem.W.mg_of X G gOp, _, rfl⟩, tuple := PySem.W.mg_none_of X G z_tuple, len := PySem.W.mg_none_of X G z_len, all := PySem.W.mg_none_of X G z_all, hk := Nat.le_refl _ }
  have Sstop : StaX P w K mg base (L2.CX P w) 5 C "stop" (spStop C CB) := ⟨_, _, _, _, _, ⟨rdC, gaC⟩, ⟨sstop, ⟨_, rstop⟩, kststop⟩, ok_stop Fststop M, Bststop⟩
  have Soffer : StaX P w K mg base (L2.CX P w) 5 C "offer" (spOffer C CB) := ⟨_, _, _, _, _, ⟨rdC, gaC⟩, ⟨soffer, ⟨_, roffer⟩, kstoffer⟩, ok_offer Fstoffer M, Bstoffer⟩
  have Snew : StaX P w K mg base (L2.CX P w) 5 C "new" (spNew C CB) := ⟨_, _, _, _, _, ⟨rdC, gaC⟩, ⟨snew, ⟨_, rnew⟩, kstnew⟩, ok_new Fstnew M, Bstnew⟩
  have Swhen : StaX P w K mg base (L2.CX P w) 5 C "when" (spWhen C CB) := ⟨_, _, _, _, _, ⟨rdC, gaC⟩, ⟨swhen, ⟨_, rwhen⟩, kstwhen⟩, ok_when Fstwhen M, Bstwhen⟩
  have Scall : StaX P w K mg base (L2.CX P w) 5 C "call" (spCall K C CB) := ⟨_, _, _, _, _, ⟨rdC, gaC⟩, ⟨scall, ⟨_, rcall⟩, kstcall⟩, ok_call Fstcall M, Bstcall⟩
  have Gischoice : CalX P w K mg base CX0 1 "is_choice" (spChoice C) := ⟨_, _, _, ok_is_choice Fischoice B T, PySem.W.mg_of X G aischoice, kischoice, Bischoice⟩
  have edu : PySem.dunder Operator.Add.info.2 = "__add__" := by decide +kernel
  have OM : FsR.OpM K C .Add fadd := ⟨opF, by rw [edu]; exact madd, iadd⟩
  have ST : StaT P w K mg base C CB 5 := ⟨PySem.W.mg_of X G aC, Sstop, Snew, Swhen, Scall, Soffer, ⟨_, _, _, OM, ok_add Fadd T M Gischoice ⟨_, PySem.W.mg_of X G gOf, _, rfl⟩, Badd⟩⟩
  have Gword : CalX P w K mg base CX0 1 "_law_word" spWordX := ⟨_, _, _, ok_word Fword L, PySem.W.mg_of X G aword, kword, Bword⟩
  have Glop : CalX P w K mg base CX0 2 "_law_operand" spOperand := ⟨_, _, _, ok_loperand Flop L Gword, PySem.W.mg_of X G alop, klop, Blop⟩
  have Gloff : CalX P w K mg base CX0 3 "_law_offer" spLOffer := ⟨_, _, _, ok_loffer Floff L Gword Glop, PySem.W.mg_of X G aloff, kloff, Bloff⟩
  have Gterm : CalX P w K mg base CX0 7 "_law_term" (spTerm 3) := ⟨_, _, _, ok_term Fterm L Gword Glop Gloff (PySem.W.mg_of X G aterm) kterm Bterm 3, PySem.W.mg_of X G aterm, kterm, Bterm⟩
  have Gmade : CalX P w K mg base CX0 9 "_law_made" (spMade C 3) := ⟨_, _, _, ok_made Fmade ST (PySem.W.mg_none_of X G z_list) (PySem.W.mg_of X G amade) kmade Bmade 3, PySem.W.mg_of X G amade, kmade, Bmade⟩
  have GwdC : CalX P w K mg base CX0 1 "_law_word_changed" spWdC := ⟨_, _, _, ok_wdC FwdC, PySem.W.mg_of X G awdC, kwdC, BwdC⟩
  have GopC : CalX P w K mg base CX0 2 "_law_operand_changed" spOpC := ⟨_, _, _, ok_opC FopC B GwdC, PySem.W.mg_of X G aopC, kopC, BopC⟩
  have Gchg : CalX P w K mg base CX0 9 "_law_changed" (spChg 3) := ⟨_, _, _, ok_chg Fchg FofC L GwdC GopC (PySem.W.mg_of X G achg) kchg Bchg (PySem.W.mg_of X G aofC) kofC BofC 3, PySem.W.mg_of X G achg, kchg, Bchg⟩
  have PE := ok_eqB (P := P) (w := w) (base := base) Fpeq (PySem.W.mg_none_of X G z_isinstance) T mpeq ipeq Bpeq 3
  have NM : NeM K C fpeq := { at_ := mpeq, fn := ipeq, ne := neC, ob := obC }
  exact ok_law (k := 12) (by decide) Flaw L Gcellat Grow Gterm Gmade Gchg NM PE Bpeq
theorem walk {l : PySem.W.OpenLaw} {q : Program} {loose : List Str} {XP : (Str → Option Value) → Heap → Prop} {YP : World → Heap → Prop} {d : DefRec} {K : Params → PySem.W.Frag} (hn : l.most = some 63) (hdf : d.params.defaults = [])
    (hY : ∀ (w : World) (h : Heap), YP w h → (K w.params).In h)
    (hF : ∀ (w : World) (mg : Str → Option Value) (fa : Addr) (h : Heap), (K w.params).In h → h.Ns mainGlobals mg → mg d.name = some (.ref fa) →
      ∃ fd : FuncData, (∀ (s : Shared) (u : Value), BindsTo s fd ⟨[u], []⟩ [("_law_script", u)]) ∧ ∀ base : Heap, (K w.params).In base → base.Ns mainGlobals mg → FnOk l.prog w (K w.params) mg base CX0 13 fa fd ["_law_script"] (spLaw (K w.params))) :
    PySem.W.WalkO q loose XP YP l.row.toRowW d [] (fun f vs => PySem.call f vs) :=
  L2.walk_of (n := 63) (k := 13) (x := "_law_script") (CX := fun _ => CX0) (sp := fun w => spLaw (K w.params)) hn (by decide) hdf ⟨rfl, by decide, by decide⟩ hY hF (fun _ _ a ns _ _ hS => ⟨a, ns, rfl, hS, fun _ => rfl⟩) fun _ _ _ _ _ z => z
end Fs

open PySem PySem.W PyProof.Rows
set_option Elab.async false
set_option maxRecDepth 100000 in
set_option maxHeartbeats 0 in
theorem PySem.Challenge.cw_fullseats_k09_processes_equal_holds : PySem.Challenge.rw_fullseats_k09_processes_equal.Holds := by
  w_on; o_law; k_head; (case hw => w_witness2)
  k_fill
  refine Fs.walk (l := PySem.Challenge.rw_fullseats_k09_processes_equal) rfl rfl (fun w h Y => PySem.W.kIn_of Y) ?F
  case F =>
    intro w mg fa h KX G hmg
    refine' Fs.all_mk KX G hmg ?aB ?xB ?eiB ?saB ?noB ?iB ?tB ?kB ?exB ?veB ?tyB ?mroB ?spB ?opq ?lB ?cB ?oB ?vB ?fB1 ?ceB ?lnB ?zMB ?topB ?gaB ?ggB ?hdB ?icB ?sbB ?z_super ?gL ?hL ?gD ?hD ?gN ?hN ?gT ?hT ?gM ?hM ?gDe ?hDe ?gSi ?hSi ?gR ?lR ?sR ?hR ?z_isinstance ?z_str ?z_int ?z_bool ?z_len ?z_all ?aC ?pg ?hd ?po ?sa ?n_kind ?n_parts ?n_depth ?n_size ?mk ?kc ?ha ?hn ?ht ?hm ?ic ?ty ?no_str ?no_int ?no_tuple ?z_sum ?z_max ?z_tuple ?minit ?iinit ?linit ?cinit ?kinit ?aisname ?lisname ?cisname ?kisname ?aisint ?lisint ?cisint ?kisint ?aisshort ?lisshort ?cisshort ?kisshort ?aisop ?lisop ?cisop ?kisop ?ademand ?ldemand ?cdemand ?kdemand ?ainner ?linner ?cinner ?kinner ?asize ?lsize ?csize ?ksize ?adepth ?ldepth ?cdepth ?kdepth ?gOp ?hOp ?gOf ?hOf ?rdC ?gaC ?sstop ?rstop ?lststop ?cststop ?kststop ?soffer ?roffer ?lstoffer ?cstoffer ?kstoffer ?snew ?rnew ?lstnew ?cstnew ?kstnew ?swhen ?rwhen ?lstwhen ?cstwhen ?kstwhen ?scall ?rcall ?lstcall ?cstcall ?kstcall ?madd ?iadd ?ladd ?cadd ?kadd ?mpeq ?ipeq ?lpeq ?cpeq ?kpeq ?aarenames ?larenames ?carenames ?karenames ?aisseats ?lisseats ?cisseats ?kisseats ?aischoice ?lischoice ?cischoice ?kischoice ?acellat ?lcellat ?ccellat ?kcellat ?amixed ?lmixed ?cmixed ?kmixed ?arow ?lrow ?crow ?krow ?aword ?lword ?cword ?kword ?alop ?llop ?clop ?klop ?aloff ?lloff ?cloff ?kloff ?aterm ?lterm ?cterm ?kterm ?amade ?lmade ?cmade ?kmade ?awdC ?lwdC ?cwdC ?kwdC ?aopC ?lopC ?copC ?kopC ?aofC ?lofC ?cofC ?kofC ?achg ?lchg ?cchg ?kchg ?alaw ?llaw ?claw ?klaw ?opF ?neC ?obC ?z_abs ?z_range ?z_set ?z_list
    (case aB => k_is)
    (case xB => k_is)
    (case eiB => kx_is)
    (case saB => k_is)
    (case noB => k_is)
    (case iB => k_is)
    (case tB => k_is)
    (case kB => k_is)
    (case exB => k_is)
    (case veB => k_is)
    (case tyB => k_is)
    (case mroB => k_is)
    (case spB => ks_is)
    (case opq => k_is)
    (case lB => k_is)
    (case cB => k_is)
    (case oB => k_is)
    (case vB => rfl)
    (case fB1 => decide +kernel)
    (case ceB => k_is)
    (case lnB => decide +kernel)
    (case zMB => decide +kernel)
    (case topB => decide +kernel)
    (case gaB => k_is)
    (case ggB => k_is)
    (case hdB => k_is)
    (case icB => k_is)
    (case sbB => first | rfl | k_is)
    (case z_super => k_is)
    (case gL => k_is)
    (case hL => decide +kernel)
    (case gD => k_is)
    (case hD => decide +kernel)
    (case gN => k_is)
    (case hN => decide +kernel)
    (case gT => k_is)
    (case hT => decide +kernel)
    (case gM => k_is)
    (case hM => decide +kernel)
    (case gDe => k_is)
    (case hDe => decide +kernel)
    (case gSi => k_is)
    (case hSi => decide +kernel)
    (case gR => k_is)
    (case lR => k_is)
    (case sR => decide +kernel)
    (case hR => exact .cons ⟨_, rfl⟩ (.cons ⟨_, rfl⟩ (.cons ⟨_, rfl⟩ (.cons ⟨_, rfl⟩ (.cons ⟨_, rfl⟩ (.cons ⟨_, rfl⟩ (.cons ⟨_, rfl⟩ (.cons ⟨_, rfl⟩ (.cons ⟨_, rfl⟩ (.cons ⟨_, rfl⟩ (.cons ⟨_, rfl⟩ .nil)))))))))))
    (case z_isinstance => k_is)
    (case z_str => k_is)
    (case z_int => k_is)
    (case z_bool => k_is)
    (case z_len => k_is)
    (case z_all => k_is)
    (case aC => k_is)
    (case pg => k_is)
    (case hd => k_is)
    (case po => k_is)
    (case sa => k_is)
    (case n_kind => k_is)
    (case n_parts => k_is)
    (case n_depth => k_is)
    (case n_size => k_is)
    (case mk => k_is)
    (case kc => k_is)
    (case ha => k_is)
    (case hn => k_is)
    (case ht => k_is)
    (case hm => k_is)
    (case ic => k_is)
    (case ty => k_is)
    (case no_str => k_is)
    (case no_int => k_is)
    (case no_tuple => k_is)
    (case z_sum => k_is)
    (case z_max => k_is)
    (case z_tuple => k_is)
    (case minit => k_is)
    (case iinit => k_is)
    (case linit => k_is)
    (case cinit => k_is)
    (case kinit => k_is)
    (case aisname => k_is)
    (case lisname => k_is)
    (case cisname => k_is)
    (case kisname => k_is)
    (case aisint => k_is)
    (case lisint => k_is)
    (case cisint => k_is)
    (case kisint => k_is)
    (case aisshort => k_is)
    (case lisshort => k_is)
    (case cisshort => k_is)
    (case kisshort => k_is)
    (case aisop => k_is)
    (case lisop => k_is)
    (case cisop => k_is)
    (case kisop => k_is)
    (case ademand => k_is)
    (case ldemand => k_is)
    (case cdemand => k_is)
    (case kdemand => k_is)
    (case ainner => k_is)
    (case linner => k_is)
    (case cinner => k_is)
    (case kinner => k_is)
    (case asize => k_is)
    (case lsize => k_is)
    (case csize => k_is)
    (case ksize => k_is)
    (case adepth => k_is)
    (case ldepth => k_is)
    (case cdepth => k_is)
    (case kdepth => k_is)
    (case gOp => k_is)
    (case hOp => decide +kernel)
    (case gOf => k_is)
    (case hOf => decide +kernel)
    (case rdC => k_is)
    (case gaC => k_is)
    (case sstop => k_is)
    (case rstop => k_is)
    (case lststop => k_is)
    (case cststop => k_is)
    (case kststop => k_is)
    (case soffer => k_is)
    (case roffer => k_is)
    (case lstoffer => k_is)
    (case cstoffer => k_is)
    (case kstoffer => k_is)
    (case snew => k_is)
    (case rnew => k_is)
    (case lstnew => k_is)
    (case cstnew => k_is)
    (case kstnew => k_is)
    (case swhen => k_is)
    (case rwhen => k_is)
    (case lstwhen => k_is)
    (case cstwhen => k_is)
    (case kstwhen => k_is)
    (case scall => k_is)
    (case rcall => k_is)
    (case lstcall => k_is)
    (case cstcall => k_is)
    (case kstcall => k_is)
    (case madd => k_is)
    (case iadd => k_is)
    (case ladd => k_is)
    (case cadd => k_is)
    (case kadd => k_is)
    (case mpeq => k_is)
    (case ipeq => k_is)
    (case lpeq => k_is)
    (case cpeq => k_is)
    (case kpeq => k_is)
    (case aarenames => k_is)
    (case larenames => k_is)
    (case carenames => k_is)
    (case karenames => k_is)
    (case aisseats => k_is)
    (case lisseats => k_is)
    (case cisseats => k_is)
    (case kisseats => k_is)
    (case aischoice => k_is)
    (case lischoice => k_is)
    (case cischoice => k_is)
    (case kischoice => k_is)
    (case acellat => k_is)
    (case lcellat => k_is)
    (case ccellat => k_is)
    (case kcellat => k_is)
    (case amixed => k_is)
    (case lmixed => k_is)
    (case cmixed => k_is)
    (case kmixed => k_is)
    (case arow => k_is)
    (case lrow => k_is)
    (case crow => k_is)
    (case krow => k_is)
    (case aword => k_is)
    (case lword => k_is)
    (case cword => k_is)
    (case kword => k_is)
    (case alop => k_is)
    (case llop => k_is)
    (case clop => k_is)
    (case klop => k_is)
    (case aloff => k_is)
    (case lloff => k_is)
    (case cloff => k_is)
    (case kloff => k_is)
    (case aterm => k_is)
    (case lterm => k_is)
    (case cterm => k_is)
    (case kterm => k_is)
    (case amade => k_is)
    (case lmade => k_is)
    (case cmade => k_is)
    (case kmade => k_is)
    (case awdC => k_is)
    (case lwdC => k_is)
    (case cwdC => k_is)
    (case kwdC => k_is)
    (case aopC => k_is)
    (case lopC => k_is)
    (case copC => k_is)
    (case kopC => k_is)
    (case aofC => k_is)
    (case lofC => k_is)
    (case cofC => k_is)
    (case kofC => k_is)
    (case achg => k_is)
    (case lchg => k_is)
    (case cchg => k_is)
    (case kchg => k_is)
    (case alaw => k_is)
    (case llaw => k_is)
    (case claw => k_is)
    (case klaw => k_is)
    (case opF => k_is)
    (case neC => k_is)
    (case obC => k_is)
    (case z_abs => k_is)
    (case z_range => k_is)
    (case z_set => k_is)
    (case z_list => k_is)

