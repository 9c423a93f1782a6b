import PyProof.Rows.All
import Wide.All
import OpenK.AllK
import Wide.FinOn
import KE.DatumOrd
import HandS.Base
import HandS.Call
import HandS.List
import HandS.SortKw
import HandS.ForMost
import HandS.ForExc
import HandS.Evl
import HandS.Walk
import HandS.IsInst
import HandS.Codes
import HandS.Exc
import HandS.ExcOwn
import HandS.ClsMeth
import HandS.Flow
import HandS.Strs
import HandS.TupSets
import HandS.TupAny
import PyProof.StrBlock2
import HandS.Text
import HandS.RaiseMore
import PyProof.FitsInt
import HandS.StrMore
import PyProof.StrLawsAffix
import PyProof.StrLawsChain
import HandS.TryMany
import HandS.WordsExc
import HandS.StrSplit
import HandS.Defaults
import HandS.TryOnly
import PyProof.EqAt
import PyProof.EqKinds
import PyProof.TupleCall
import HandS.OwnEq
import KE.KOpsOwn
import PyProof.FString
import KE.KSuper
import KE.KExcSuper
import KE.OsGo
import KE.KExcLine
import KE.RegKSuper
import PySem.Challenge.RW_fullseats_k16_processes_read_back
set_option Elab.async false
set_option linter.all false
set_option maxRecDepth 100000
set_option maxHeartbeats 2000000
/-! max(xs, default=d) of a list of ints -/
namespace FsR
open PySem PySem.Spec PyProof.Rows L2
def maxFrom (y : Int) (ys : List Int) : Int := ys.foldl max y
def maxDef (d : Int) : List Int → Int
  | [] => d
  | y :: ys => maxFrom y ys
theorem maxOf_eq : ∀ (ys : List Int) (y : Int), PySem.W.maxOf y ys = maxFrom y ys
  | [], y => rfl
  | z :: zs, y => by
    have e : (if PySem.W.DatumOrd.lt y z = true then z else y) = max y z := by
      show (if decide (y < z) = true then z else y) = max y z
      by_cases h : y < z
      · rw [if_pos (decide_eq_true h)]; omega
      · rw [if_neg (by simpa using h)]; omega
    have ih := maxOf_eq zs (max y z)
    unfold PySem.W.maxOf maxFrom at *
    rw [List.foldl_cons, List.foldl_cons, e]
    exact ih
theorem readsAll_ints {h : Heap} : ∀ {vs : List Value} {ns : List Int}, IntsAre vs ns → ∃ as, ReadsAll h vs (ns.map PySem.W.Datum.toD) as
  | _, _, .nil => ⟨[], .nil⟩
  | _, _, .cons n t r => by
    obtain ⟨as, z⟩ := readsAll_ints (h := h) r
    exact ⟨[] ++ as, .cons (.int n t) z⟩
/-- max(xs, default=d) -/
def rMaxD (K : PySem.W.Frag) : List V → List V → Hp → VK → Prop := fun xs zs H Q => ∃ (a : Addr) (ns : List Int) (d : Int), xs = [V.ref a] ∧ zs = [V.int d] ∧ SqL K H a (ns.map V.int) ∧ Q (.int (maxDef d ns)) H
theorem ck_maxD {X : Cx} (hc : X.calm = true) (hu : X.A.units + 1 + 1 < cLine) : CallRK X (.builtin "max") ["default"] (rMaxD X.K) := by
  intro pins s σ H xs zs us ws Q I r rz h
  obtain ⟨a, ns, d, rfl, rfl, hs, q⟩ := h
  obtain ⟨its, rv, hl, _⟩ := I.list hs
  rw [Vals.ref1 r]
  cases rz with
  | cons rd rn =>
    cases rn
    obtain ⟨t, rfl⟩ := rd
    have hI := rv.ints
    show wpAny (model X.prog X.w) X.A (call (.builtin "max") [.ref a] [(Str.ofString "default", .int d t)]) _ _ _
    refine PySem.W.max_list_datum_default (α := Int) (xs := ns) (I.ok.hd hc) hl.isList (readsAll_ints hI) (by show X.A.units + 1 + 0 < cLine; omega) (fun e h' tk hk => ?_) (fun y ys i v h' tk e hi hv hk => ?_)
    · subst e
      exact ⟨.int d, H, I.kept hk, ⟨t, rfl⟩, q⟩
    · subst e
      obtain ⟨as, z⟩ := hv
      have z' : ∃ t', v = Value.int (PySem.W.maxOf y ys) t' := by
        have z2 : Reads h' v (.int (PySem.W.maxOf y ys)) as := z
        cases z2 with
        | int _ t' => exact ⟨t', rfl⟩
      obtain ⟨t', rfl⟩ := z'
      refine ⟨.int (PySem.W.maxOf y ys), H, I.kept hk, ⟨t', rfl⟩, ?_⟩
      rw [maxOf_eq]
      exact q
end FsR

set_option Elab.async false
set_option linter.all false
set_option maxRecDepth 100000
set_option maxHeartbeats 2000000
/-! further Ev lemmas -/
namespace FsE
open PySem L2 Evl
section
variable {K : PySem.W.Frag} {σ : L2.St} {H : Hp} {ta tb tc te : TE} {x y z : V}
theorem ev_chain {r r' : R2} {a b : Bool} (ha : Ev ta σ H x) (hb : Ev tb σ H y) (h1 : RV r x y H (.bl a)) (hc : a = true → Ev tc σ H z) (h2 : a = true → RV r' y z H (.bl b)) : Ev (tChain r r' ta tb tc) σ H (.bl (a && b)) := fun H1 e Q q =>
  ha H1 e _ fun H2 e2 => hb H2 (e.trans e2) _ fun H3 e3 => h1 H3 ((e.trans e2).trans e3) _ fun H4 e4 => ⟨a, rfl, by
    cases a with
    | true =>
      show tc σ H4 _
      exact hc rfl H4 (((e.trans e2).trans e3).trans e4) _ fun H5 e5 => h2 rfl H5 ((((e.trans e2).trans e3).trans e4).trans e5) Q fun H6 e6 => q H6 ((((e2.trans e3).trans e4).trans e5).trans e6)
    | false =>
      show Q (.bl false) H4
      exact q H4 ((e2.trans e3).trans e4)⟩
theorem rc_isi {t T : String} {b : Bool} (ht : ∀ H1, Ex H H1 → TyX K H1 x (.type t)) (hk : kitB t T = some b) : RC (rIsi K) [x, .ty T] H (.bl b) := fun H1 e Q q =>
  ⟨x, .ty T, .type t, .type T, b, rfl, .ty T, ht H1 e, kit_ty hk, q H1 (Ex.refl H1)⟩
theorem rc_isStr {z : Str} {T : String} {b : Bool} (hk : kitB "str" T = some b) : RC (rIsi K) [.str z, .ty T] H (.bl b) := rc_isi (fun _ _ => .base (.str z)) hk
theorem rc_isInt {i : Int} {T : String} {b : Bool} (hk : kitB "int" T = some b) : RC (rIsi K) [.int i, .ty T] H (.bl b) := rc_isi (fun _ _ => .base (.int i)) hk
/-- len of a text -/
theorem rc_lenS {z : Str} (hz : z.length ≤ sizeLine) : RC (fun xs H Q => ∃ a, xs = [.str a] ∧ a.length ≤ sizeLine ∧ Q (.int (a.length : Nat)) H) [.str z] H (.int (z.length : Nat)) := fun H1 _ _ q => ⟨z, rfl, hz, q H1 (Ex.refl H1)⟩
theorem rv_inSign {c : Nat} {z : Str} : RV (fun x y H Q => ∃ (c : Nat) (z : Str), x = .str ⟨#[c]⟩ ∧ y = .str z ∧ Q (.bl (decide (c ∈ z.cps.toList))) H) (.str ⟨#[c]⟩) (.str z) H (.bl (decide (c ∈ z.cps.toList))) := fun H1 _ _ q => ⟨c, z, rfl, rfl, q H1 (Ex.refl H1)⟩
theorem rv_niSign {c : Nat} {z : Str} : RV (fun x y H Q => ∃ (c : Nat) (z : Str), x = .str ⟨#[c]⟩ ∧ y = .str z ∧ Q (.bl (!decide (c ∈ z.cps.toList))) H) (.str ⟨#[c]⟩) (.str z) H (.bl (!decide (c ∈ z.cps.toList))) := fun H1 _ _ q => ⟨c, z, rfl, rfl, q H1 (Ex.refl H1)⟩
/-- a comprehension over a text -/
theorem el_lcS {z : Str} {tl : TE} {j : Nat} {vs : List Nat} {t : TT} (f : Nat → Bool) (v : Nat → V) (h : Ev tl σ H (.str z)) (hz : z.cps.size ≤ 40000) (hw : ∀ x, wipe ((wipe σ vs).set j (some x)) vs = wipe σ vs)
    (ht : ∀ (i : Nat) (c : Nat) H1, Ex H H1 → z.cps[i]? = some c → EvT t ((wipe σ vs).set j (some (.str ⟨#[c]⟩))) H1 (f i)) (he : ∀ (i : Nat) (c : Nat) H1, Ex H H1 → z.cps[i]? = some c → f i = true → Ev te ((wipe σ vs).set j (some (.str ⟨#[c]⟩))) H1 (v i)) :
    EvL (tLc (iStr tl) (gName j) t te vs) σ H (given z.cps.size f v) := fun H0 e Q q => h H0 e _ fun H1 e1 => ⟨z, rfl, fun Dl hD =>
  lc_it walk_str (Cw H1 f v Dl) ⟨hD, Ex.new hD, upd_same⟩ (fun _ _ _ _ => trivial) (fun i x H' H2 hi p y => by
    obtain ⟨rfl, c, hc, rfl⟩ := y
    exact ⟨hw _, cw_turn p (by omega) (ht i c H1 (e.trans e1) hc) (fun hf => he i c H1 (e.trans e1) hc hf)⟩)
    (fun H' p => q Dl H' (fresh_back e1 p.1) (e1.trans p.2.1) p.2.2)⟩
/-- all of a new list of bools -/
theorem ev_all {bs : List Bool} (h : EvL te σ H (bs.map V.bl)) : Ev (tCB (rAll K) (tCons te tNil)) σ H (.bl (bs.all id)) := fun H1 e Q q =>
  h H1 e _ fun p H2 _ e2 hp => ⟨p, bs, rfl, sq_of hp, q H2 e2⟩
/-- given, no test -/
theorem given_all {n : Nat} {v : Nat → V} : given n (fun _ => true) v = (List.range n).map v := by
  unfold given
  rw [List.filter_eq_self.mpr (fun _ _ => rfl)]
theorem et_nil : EvT tYes σ H true := fun H1 _ _ q => q H1 (Ex.refl H1)
theorem range_map {α : Type} (xs : List α) (d : α) (v : α → V) : (List.range xs.length).map (fun i => v (xs.getD i d)) = xs.map v := by
  refine List.ext_getElem? fun i => ?_
  rw [List.getElem?_map, List.getElem?_map]
  by_cases hi : i < xs.length
  · rw [List.getElem?_range hi, List.getElem?_eq_getElem hi]
    show some (v (xs.getD i d)) = some (v xs[i])
    rw [List.getD_eq_getElem?_getD, List.getElem?_eq_getElem hi]
    rfl
  · rw [List.getElem?_eq_none (by rw [List.length_range]; omega), List.getElem?_eq_none (by omega)]
    rfl
/-- [e for c in text] -/
theorem el_lcSm {z : Str} {tl : TE} {j : Nat} {vs : List Nat} (v : Nat → V) (h : Ev tl σ H (.str z)) (hz : z.length ≤ 40000) (hw : ∀ x, wipe ((wipe σ vs).set j (some x)) vs = wipe σ vs)
    (he : ∀ (c : Nat) H1, Ex H H1 → c ∈ z.cps.toList → Ev te ((wipe σ vs).set j (some (.str ⟨#[c]⟩))) H1 (v c)) : EvL (tLc (iStr tl) (gName j) tYes te vs) σ H (z.cps.toList.map v) := by
  have g := el_lcS (te := te) (j := j) (vs := vs) (t := tYes) (fun _ => true) (fun i => v (z.cps.toList.getD i 0)) h hz hw (fun _ _ _ _ _ => et_nil) (fun i c H3 e hc _ => by
    have e1 : z.cps.toList.getD i 0 = c := by
      rw [List.getD_eq_getElem?_getD, Array.getElem?_toList, hc]
      rfl
    rw [e1]
    exact he c H3 e (by rw [List.mem_iff_getElem?]; exact ⟨i, by rw [Array.getElem?_toList, hc]⟩))
  rw [given_all] at g
  have e := range_map z.cps.toList 0 v
  rw [Array.length_toList] at e
  rw [e] at g
  exact g
/-- [e for x in list] -/
theorem el_lcLm {a : Addr} {xs : List V} {tl : TE} {j : Nat} {vs : List Nat} (v : V → V) (h : Ev tl σ H (.ref a)) (hx : SqL K H a xs) (hz : xs.length ≤ 40000) (hw : ∀ x, wipe ((wipe σ vs).set j (some x)) vs = wipe σ vs)
    (he : ∀ (x : V) H1, Ex H H1 → x ∈ xs → Ev te ((wipe σ vs).set j (some x)) H1 (v x)) : EvL (tLc (iList K tl) (gName j) tYes te vs) σ H (xs.map v) := by
  have g := el_lcL (K := K) (te := te) (j := j) (vs := vs) (t := tYes) (fun _ => true) (fun i => v (xs.getD i .non)) h hx hz hw (fun _ _ _ _ _ => et_nil) (fun i x H3 e hc _ => by
    have e1 : xs.getD i .non = x := by
      rw [List.getD_eq_getElem?_getD, hc]
      rfl
    rw [e1]
    exact he x H3 e (List.mem_iff_getElem?.mpr ⟨i, hc⟩))
  rw [given_all, range_map xs .non v] at g
  exact g
/-- [e for x in (a new list)] -/
theorem el_lcNLm {xs : List V} {tl : TE} {j : Nat} {vs : List Nat} (v : V → V) (h : EvL tl σ H xs) (hz : xs.length ≤ 40000) (hw : ∀ x, wipe ((wipe σ vs).set j (some x)) vs = wipe σ vs)
    (he : ∀ (x : V) H1, Ex H H1 → x ∈ xs → Ev te ((wipe σ vs).set j (some x)) H1 (v x)) : EvL (tLc (iList K tl) (gName j) tYes te vs) σ H (xs.map v) := by
  have g := el_lcNL (K := K) (te := te) (j := j) (vs := vs) (t := tYes) (fun _ => true) (fun i => v (xs.getD i .non)) h hz hw (fun _ _ _ _ _ => et_nil) (fun i x H3 e hc _ => by
    have e1 : xs.getD i .non = x := by
      rw [List.getD_eq_getElem?_getD, hc]
      rfl
    rw [e1]
    exact he x H3 e (List.mem_iff_getElem?.mpr ⟨i, hc⟩))
  rw [given_all, range_map xs .non v] at g
  exact g
/-- [e for k in range(n)] -/
theorem el_lcRm {tn : TA} {j : Nat} {vs : List Nat} {n : Int} (v : Nat → V) (h : EvA tn σ H [.int n]) (hn : 0 ≤ n ∧ n ≤ 40000) (hw : ∀ x, wipe ((wipe σ vs).set j (some x)) vs = wipe σ vs)
    (he : ∀ (i : Nat) H1, Ex H H1 → (i : Int) < n → Ev te ((wipe σ vs).set j (some (.int (i : Int)))) H1 (v i)) : EvL (tLc (iRng1 tn) (gName j) tYes te vs) σ H ((List.range n.toNat).map v) := by
  have g := el_lcR1 (te := te) (j := j) (vs := vs) (t := tYes) (fun _ => true) v h hn hw (fun _ _ _ _ => et_nil) (fun i H1 e hi _ => he i H1 e hi)
  rw [given_all] at g
  exact g
/-- a comprehension over a tuple -/
theorem el_lcT {a : Addr} {xs : List V} {tl : TE} {j : Nat} {vs : List Nat} {t : TT} (f : Nat → Bool) (v : Nat → V) (h : Ev tl σ H (.ref a)) (hx : SqT K H a xs) (hz : xs.length ≤ 40000) (hw : ∀ x, wipe ((wipe σ vs).set j (some x)) vs = wipe σ vs)
    (ht : ∀ (i : Nat) (x : V) H1, Ex H H1 → xs[i]? = some x → EvT t ((wipe σ vs).set j (some x)) H1 (f i)) (he : ∀ (i : Nat) (x : V) H1, Ex H H1 → xs[i]? = some x → f i = true → Ev te ((wipe σ vs).set j (some x)) H1 (v i)) :
    EvL (tLc (iTup K tl) (gName j) t te vs) σ H (given xs.length f v) := fun H0 e Q q => h H0 e _ fun H1 e1 => ⟨a, rfl, ⟨xs, ex_t (e.trans e1) hx⟩, fun Dl hD =>
  lc_tup (xs := xs) (Cw H1 f v Dl) ⟨hD, Ex.new hD, upd_same⟩ (fun i H' _ p => ex_t ((e.trans e1).trans p.2.1) hx) (fun i x H' hi p => ⟨hw x, cw_turn p (by have := (List.getElem?_eq_some_iff.mp hi).1; omega) (ht i x H1 (e.trans e1) hi) (fun hf => he i x H1 (e.trans e1) hi hf)⟩)
    (fun H' p => q Dl H' (fresh_back e1 p.1) (e1.trans p.2.1) p.2.2)⟩
theorem ev_fld {a C dx : Addr} {fs : List (Str × V)} {f : Str} {v : V} (h : Ev ta σ H (.ref a)) (hi : H a = some (.ins C dx fs)) (cl : Cls K C) (n : NoAttr K C f) (l : fs.lookup f = some v) : Ev (tFld K ta f) σ H v := fun H1 e Q q =>
  h H1 e _ fun H2 e2 => ⟨a, C, dx, fs, v, rfl, (e.trans e2) _ _ hi, cl, n, l, q H2 e2⟩
theorem ev_sum {ns : List Int} (h : EvL te σ H (ns.map V.int)) : Ev (tCB (rSum K) (tCons te tNil)) σ H (.int ns.sum) := fun H1 e Q q =>
  h H1 e _ fun p H2 _ e2 hp => ⟨p, ns, rfl, sq_of hp, q H2 e2⟩
theorem ev_maxD {ns : List Int} {d : Int} (h : EvL te σ H (ns.map V.int)) : Ev (tCKw (FsR.rMaxD K) (tCons te tNil) (tCons (tC (.int d)) tNil)) σ H (.int (FsR.maxDef d ns)) := fun H1 e Q q =>
  h H1 e _ fun p H2 _ e2 hp => ⟨p, ns, d, rfl, rfl, sq_of hp, q H2 e2⟩
theorem ev_lenT {a : Addr} {xs : List V} (h : Ev ta σ H (.ref a)) (hx : SqT K H a xs) : Ev (tCB (fun xs H Q => ∃ p ys, xs = [V.ref p] ∧ (SqL K H p ys ∨ SqT K H p ys) ∧ Q (.int ys.length) H) (tCons ta tNil)) σ H (.int (xs.length : Int)) := fun H1 e Q q =>
  h H1 e _ fun H2 e2 => ⟨a, xs, rfl, .inr (ex_t (e.trans e2) hx), q H2 e2⟩
theorem rc_isiOwn {C : Addr} {t : Value} {b : Bool} (ht : ∀ H1, Ex H H1 → TyX K H1 x t) (hk : PySem.W.kitOne K t (.ref C) = some b) : RC (rIsi K) [x, .ref C] H (.bl b) := fun H1 e Q q =>
  ⟨x, .ref C, t, .ref C, b, rfl, .own C, ht H1 e, hk, q H1 (Ex.refl H1)⟩
theorem range_ys {xs ys : List V} (hl : ys.length = xs.length) : (List.range xs.length).map (fun i => ys.getD i .non) = ys := by
  have e := range_map ys .non (fun y => y)
  rw [List.map_id', hl] at e
  exact e
/-- comprehensions, the result told by its items -/
theorem el_lcNLy {xs ys : List V} {tl : TE} {j : Nat} {vs : List Nat} (h : EvL tl σ H xs) (hz : xs.length ≤ 40000) (hw : ∀ x, wipe ((wipe σ vs).set j (some x)) vs = wipe σ vs) (hl : ys.length = xs.length)
    (he : ∀ (i : Nat) (x y : V) H1, Ex H H1 → xs[i]? = some x → ys[i]? = some y → Ev te ((wipe σ vs).set j (some x)) H1 y) : EvL (tLc (iList K tl) (gName j) tYes te vs) σ H ys := by
  have g := el_lcNL (K := K) (te := te) (j := j) (vs := vs) (t := tYes) (fun _ => true) (fun i => ys.getD i .non) h hz hw (fun _ _ _ _ _ => et_nil) (fun i x H3 e hc _ => by
    have hi := (List.getElem?_eq_some_iff.mp hc).1
    have hy : ys[i]? = some (ys.getD i .non) := by rw [List.getD_eq_getElem?_getD, List.getElem?_eq_getElem (by omega)]; rfl
    exact he i x _ H3 e hc hy)
  rw [given_all, range_ys hl] at g
  exact g
theorem el_lcLy {a : Addr} {xs ys : List V} {tl : TE} {j : Nat} {vs : List Nat} (h : Ev tl σ H (.ref a)) (hx : SqL K H a xs) (hz : xs.length ≤ 40000) (hw : ∀ x, wipe ((wipe σ vs).set j (some x)) vs = wipe σ vs) (hl : ys.length = xs.length)
    (he : ∀ (i : Nat) (x y : V) H1, Ex H H1 → xs[i]? = some x → ys[i]? = some y → Ev te ((wipe σ vs).set j (some x)) H1 y) : EvL (tLc (iList K tl) (gName j) tYes te vs) σ H ys := by
  have g := el_lcL (K := K) (te := te) (j := j) (vs := vs) (t := tYes) (fun _ => true) (fun i => ys.getD i .non) h hx hz hw (fun _ _ _ _ _ => et_nil) (fun i x H3 e hc _ => by
    have hi := (List.getElem?_eq_some_iff.mp hc).1
    have hy : ys[i]? = some (ys.getD i .non) := by rw [List.getD_eq_getElem?_getD, List.getElem?_eq_getElem (by omega)]; rfl
    exact he i x _ H3 e hc hy)
  rw [given_all, range_ys hl] at g
  exact g
theorem el_lcTy {a : Addr} {xs ys : List V} {tl : TE} {j : Nat} {vs : List Nat} (h : Ev tl σ H (.ref a)) (hx : SqT K H a xs) (hz : xs.length ≤ 40000) (hw : ∀ x, wipe ((wipe σ vs).set j (some x)) vs = wipe σ vs) (hl : ys.length = xs.length)
    (he : ∀ (i : Nat) (x y : V) H1, Ex H H1 → xs[i]? = some x → ys[i]? = some y → Ev te ((wipe σ vs).set j (some x)) H1 y) : EvL (tLc (iTup K tl) (gName j) tYes te vs) σ H ys := by
  have g := el_lcT (K := K) (te := te) (j := j) (vs := vs) (t := tYes) (fun _ => true) (fun i => ys.getD i .non) h hx hz hw (fun _ _ _ _ _ => et_nil) (fun i x H3 e hc _ => by
    have hi := (List.getElem?_eq_some_iff.mp hc).1
    have hy : ys[i]? = some (ys.getD i .non) := by rw [List.getD_eq_getElem?_getD, List.getElem?_eq_getElem (by omega)]; rfl
    exact he i x _ H3 e hc hy)
  rw [given_all, range_ys hl] at g
  exact g
end
end FsE

set_option Elab.async false
set_option linter.all false
set_option maxRecDepth 100000
set_option maxHeartbeats 2000000
/-! A staticmethod that is called off its class. -/
namespace FsR
open PySem PySem.Spec PyProof.Rows L2 ClX
structure SMet (K : PySem.W.Frag) (C : Addr) (mc : Value) (m : Str) (p g : Addr) : Prop where
  at_ : PySem.W.findCls K (.ref C) mc m = some (.get (.builtin "staticmethod.__get__") (.ref p) .none (.ref C))
  rc : ∃ rest, PySem.W.recIn K p "staticmethod" = some (.ref g :: rest)
  kp : PySem.W.keepIn K (.ref g) = true
section
variable {X : Cx} {pins : List (Addr × Obj)} {σ : L2.St} {H : Hp} {s : Shared} {C p g : Addr} {mc : Value} {m : Str} {A : Around} {E : Value → Shared → Prop}
theorem getmethsm_ok {pl : Sem Bool} {Q : Value × List Value → Shared → Prop} (I : Inv X pins σ H s) (r : CRead X.K C mc) (k : SMet X.K C mc m p g)
    (h : ∀ s', Inv X pins σ H s' → Q (.ref g, []) s') : wpAny (model X.prog X.w) A (getMethod (.ref C) m pl) Q E s := by
  obtain ⟨rest, hp⟩ := k.rc
  exact PySem.W.method_cls I.kIn r.ga (PySem.W.cls_bind I.kIn r.rd k.at_ (wpAny_call (PySem.W.sm_get (s := { s with toks := s.toks + 1 }) I.kIn hp (PySem.W.handed_on rfl (h _ (I.tok _))))))
end
/-- C.m(..), e the class at C, m a staticmethod; E: what is wanted of what it raises, at the slots -/
def tStat (C : Addr) (sp : Sp) (E : L2.St → XK) (ta : TE) (t : TA) : TE := fun σ H Q => ta σ H fun x H1 => x = .ref C ∧ t σ H1 fun vs H2 => sp vs H2 Q (E σ)
theorem passesAt_of {CX : CXT} {X : Cx} {E : XK} (h : Passes CX X E) (σ : L2.St) : PassesAt CX X σ E := fun pins H s e s' I c => h pins σ H s e s' I c
section
variable {X : Cx} {CX : CXT} {k : Nat} {C p g : Addr} {mc : Value} {fd : FuncData} {ps : List Str} {sp : Sp} {E : L2.St → XK} {o e : Expr} {es : List Expr} {m : Str} {pos apos : Pos} {ta : TE} {t : TA} {pl : Sem Bool}
theorem pe_stat (he : PE X o ta) (r : CRead X.K C mc) (c : SMet X.K C mc m p g) (F : FnOk X.prog X.w X.K X.mg X.base CX k g fd ps sp) (hr : Room k X.A) (hb : Binds X.K fd ps []) (hx : ∀ σ, PassesAt CX X σ (E σ)) (ha : PA X (e :: es) t)
    (hst : starEach (e :: es) X.env = (false, eval e X.env) :: starEach es X.env := by rfl) (hpl : (backTo pos (starEach es X.env)).any (·.1) = false := by rfl)
    (ht : eval (.Call (.Attribute o m apos) (e :: es) [] pos) X.env = (do
      let ov ← eval o X.env
      standAt apos.atName
      let (f, first) ← holding [ov] (getMethod ov m pl)
      callWith pos f first (backTo pos (starEach (e :: es) X.env)) (backToKw pos (keywordEach [] X.env))) := by rfl) :
    PE X (.Call (.Attribute o m apos) (e :: es) [] pos) (tStat C sp E ta t) := by
  refine ⟨fun pins s σ H Q I h => ?_⟩
  refine PySem.W.methodCall_KW (pl := pl) (thn (he.run pins s σ H _ I h) fun u s1 ⟨x, H1, I1, rx, ex, q⟩ => ?_) ht
  subst ex
  obtain rfl : u = Value.ref C := rx
  refine getmethsm_ok I1 r c fun s2 I2 => ?_
  refine PySem.W.callWith_K (first := []) (h₀ := X.base) I.ok.mod.kin c.kp (thn (ha.run pos pins s2 σ H1 _ I2 q) fun us s3 ⟨vs, H2, I3, rv, q2⟩ => ⟨I3.kIn, ?_⟩) hst hpl
  exact run_fnS F hr hb (hx σ) I3 rv q2
theorem pe_stat0 (he : PE X o ta) (r : CRead X.K C mc) (c : SMet X.K C mc m p g) (F : FnOk X.prog X.w X.K X.mg X.base CX k g fd ps sp) (hr : Room k X.A) (hb : Binds X.K fd ps []) (hx : ∀ σ, PassesAt CX X σ (E σ))
    (ht : eval (.Call (.Attribute o m apos) [] [] pos) X.env = (do
      let ov ← eval o X.env
      standAt apos.atName
      let (f, first) ← holding [ov] (getMethod ov m pl)
      callWith pos f first (backTo pos (starEach [] X.env)) (backToKw pos (keywordEach [] X.env))) := by rfl) :
    PE X (.Call (.Attribute o m apos) [] [] pos) (tStat C sp E ta tNil) := by
  refine ⟨fun pins s σ H Q I h => ?_⟩
  refine PySem.W.methodCall_KW (pl := pl) (thn (he.run pins s σ H _ I h) fun u s1 ⟨x, H1, I1, rx, ex, q⟩ => ?_) ht
  subst ex
  obtain rfl : u = Value.ref C := rx
  refine getmethsm_ok I1 r c fun s2 I2 => ?_
  exact PySem.W.callWith_K0 (first := []) I2.kIn c.kp (run_fnS (us := []) (vs := []) F hr hb (hx σ) I2 .nil q)
end
end FsR

set_option Elab.async false
set_option linter.all false
set_option maxRecDepth 100000
set_option maxHeartbeats 2000000
namespace FsC
open PySem L2 Evl ClX FsR
/-- a def of the module that may be called by its name -/
structure CalX (P : Program) (w : World) (K : PySem.W.Frag) (mg : Str → Option Value) (base : Heap) (CX : CXT) (k : Nat) (x : Str) (sp : Sp) : Prop where
  ex : ∃ (f : Addr) (fd : FuncData) (ps : List Str), FnOk P w K mg base CX k f fd ps sp ∧ mg x = some (.ref f) ∧ PySem.W.keepIn K (.ref f) = true ∧ Binds K fd ps []
/-- C.m, a staticmethod of the class at C -/
structure StaX (P : Program) (w : World) (K : PySem.W.Frag) (mg : Str → Option Value) (base : Heap) (CX : CXT) (k : Nat) (C : Addr) (m : Str) (sp : Sp) : Prop where
  ex : ∃ (p f : Addr) (mc : Value) (fd : FuncData) (ps : List Str), CRead K C mc ∧ SMet K C mc m p f ∧ FnOk P w K mg base CX k f fd ps sp ∧ Binds K fd ps []
/-- C(..): a class that is made by its name -/
structure MakX (P : Program) (w : World) (K : PySem.W.Frag) (mg : Str → Option Value) (base : Heap) (CX : CXT) (k : Nat) (x : Str) (C : Addr) (sp : Sp) : Prop where
  ex : ∃ (f : Addr) (fd : FuncData) (ps : List Str), Mk K C f ∧ FnOk P w K mg base CX k f fd ps sp ∧ mg x = some (.ref C) ∧ Binds K fd ps []
section
variable {X : Cx} {CX : CXT} {k j : Nat} {C : Addr} {x m : Str} {sp : Sp} {E : L2.St → XK} {p pos apos : Pos} {e o : Expr} {es : List Expr} {ta : TE} {t : TA}
theorem pe_cx (c : CalX X.prog X.w X.K X.mg X.base CX k x sp) (hr : Room j X.A) (hk : k ≤ j) (hg : Gl X x) (hx : ∀ σ, PassesAt CX X σ (E σ)) (ha : PA X (e :: es) t)
    (hdb : (x == ("__debug__" : Str)) = false := by decide) (he : starEach (e :: es) X.env = (false, eval e X.env) :: starEach es X.env := by rfl) (hpl : (backTo pos (starEach es X.env)).any (·.1) = false := by rfl) :
    PE X (.Call (.Name x p) (e :: es) [] pos) (tCallS sp E t) := by
  obtain ⟨f, fd, ps, F, hm, kp, b⟩ := c.ex
  exact pe_callS F (hr.mono hk) hg hm kp b hx ha hdb he hpl
theorem pe_sx {pl : Sem Bool} (c : StaX X.prog X.w X.K X.mg X.base CX k C m sp) (hr : Room j X.A) (hk : k ≤ j) (ho : PE X o ta) (hx : ∀ σ, PassesAt CX X σ (E σ)) (ha : PA X (e :: es) t)
    (hst : starEach (e :: es) X.env = (false, eval e X.env) :: starEach es X.env := by rfl) (hpl : (backTo pos (starEach es X.env)).any (·.1) = false := by rfl)
    (ht : eval (.Call (.Attribute o m apos) (e :: es) [] pos) X.env = (do
      let ov ← eval o X.env
      standAt apos.atName
      let (f, first) ← holding [ov] (getMethod ov m pl)
      callWith pos f first (backTo pos (starEach (e :: es) X.env)) (backToKw pos (keywordEach [] X.env))) := by rfl) :
    PE X (.Call (.Attribute o m apos) (e :: es) [] pos) (tStat C sp E ta t) := by
  obtain ⟨p, f, mc, fd, ps, r, s, F, b⟩ := c.ex
  exact pe_stat (pl := pl) ho r s F (hr.mono hk) b hx ha hst hpl ht
theorem pe_sx0 {pl : Sem Bool} (c : StaX X.prog X.w X.K X.mg X.base CX k C m sp) (hr : Room j X.A) (hk : k ≤ j) (ho : PE X o ta) (hx : ∀ σ, PassesAt CX X σ (E σ))
    (ht : eval (.Call (.Attribute o m apos) [] [] pos) X.env = (do
      let ov ← eval o X.env
      standAt apos.atName
      let (f, first) ← holding [ov] (getMethod ov m pl)
      callWith pos f first (backTo pos (starEach [] X.env)) (backToKw pos (keywordEach [] X.env))) := by rfl) :
    PE X (.Call (.Attribute o m apos) [] [] pos) (tStat C sp E ta tNil) := by
  obtain ⟨p, f, mc, fd, ps, r, s, F, b⟩ := c.ex
  exact pe_stat0 (pl := pl) ho r s F (hr.mono hk) b hx ht
theorem pe_mx {E : XK} (c : MakX X.prog X.w X.K X.mg X.base CX k x C sp) (hr : Room j X.A) (hk : k + 1 ≤ j) (hg : Gl X x) (hx : Passes CX X E) (ha : PA X (e :: es) t)
    (hdb : (x == ("__debug__" : Str)) = false := by decide) (he : starEach (e :: es) X.env = (false, eval e X.env) :: starEach es X.env := by rfl) (hpl : (backTo pos (starEach es X.env)).any (·.1) = false := by rfl) :
    PE X (.Call (.Name x p) (e :: es) [] pos) (tMake C sp [] E t) := by
  obtain ⟨f, fd, ps, M, F, hm, b⟩ := c.ex
  exact pe_make M F (hr.mono hk) hg hm b .nil hx ha hdb he hpl
theorem at0 {X : Cx} {E : L2.St → XK} : ∀ σ, PassesAt CX0 X σ (E σ) := fun _ _ _ _ _ _ _ h => h.elim
/-- what a call within a def that may raise lets out -/
theorem atX {P : Program} {w : World} {X : Cx} {E : XK} (h : Passes (L2.CX P w) X E) : ∀ σ, PassesAt (L2.CX P w) X σ ((fun _ => E) σ) := fun σ => passesAt_of h σ
end
section
variable {σ : L2.St} {H : Hp} {z : V} {sp : Sp} {ta : TA} {vs : List V} {E : L2.St → XK}
theorem ev_cx (h : EvA ta σ H vs) (hs : SpV sp vs H z) : Ev (tCallS sp E ta) σ H z := fun H1 e Q q =>
  h H1 e _ fun H2 e2 => hs H2 (e.trans e2) Q (fun H3 e3 => q H3 (e2.trans e3)) (E σ)
theorem ev_sx {C : Addr} {to : TE} (ho : Ev to σ H (.ref C)) (h : EvA ta σ H vs) (hs : SpV sp vs H z) : Ev (tStat C sp E to ta) σ H z := fun H1 e Q q =>
  ho H1 e _ fun H2 e2 => ⟨rfl, h H2 (e.trans e2) _ fun H3 e3 => hs H3 ((e.trans e2).trans e3) Q (fun H4 e4 => q H4 ((e2.trans e3).trans e4)) (E σ)⟩
theorem el_cx {xs : List V} (h : EvA ta σ H vs) (hs : SpL sp vs H xs) : EvL (tCallS sp E ta) σ H xs := fun H1 e Q q =>
  h H1 e _ fun H2 e2 => hs H2 (e.trans e2) Q (fun p H3 hp e3 h3 => q p H3 (fresh_back e2 hp) (e2.trans e3) h3) (E σ)
end
end FsC

set_option Elab.async false
set_option linter.all false
set_option maxRecDepth 100000
set_option maxHeartbeats 2000000
namespace Fs
open PySem L2 Evl
/-! ### operands, processes, offers -/
inductive Opd where
  | int (i : Int)
  | nm (z : Str)
def Opd.v : Opd → V
  | .int i => .int i
  | .nm z => .str z
mutual
inductive Pr where
  | choice (os : Ofs)
  | new (n : Str) (k : Int) (r : Pr)
  | cond (l r : Opd) (y n : Pr)
  | call (n : Str) (ops : List Opd)
inductive Ofs where
  | nil
  | cons (c : Str) (seat seats : Int) (op : Opd) (names : List Str) (rest : Pr) (os : Ofs)
end
mutual
def Pr.depth : Pr → Int
  | .choice os => 1 + os.depth
  | .new _ _ r => 1 + r.depth
  | .cond _ _ y n => 1 + max y.depth n.depth
  | .call _ _ => 1
def Ofs.depth : Ofs → Int
  | .nil => 0
  | .cons _ _ _ _ _ r os => max r.depth os.depth
end
def Ofs.len : Ofs → Nat
  | .nil => 0
  | .cons _ _ _ _ _ _ os => os.len + 1
mutual
def Pr.size : Pr → Int
  | .choice os => max 1 (os.len : Int) + os.sum
  | .new _ _ r => 1 + r.size
  | .cond _ _ y n => 1 + (y.size + n.size)
  | .call _ _ => 1
def Ofs.sum : Ofs → Int
  | .nil => 0
  | .cons _ _ _ _ _ r os => r.size + os.sum
end
def Pr.kind : Pr → Str
  | .choice _ => "choice"
  | .new _ _ _ => "new"
  | .cond _ _ _ _ => "if"
  | .call _ _ => "call"
/-- the attributes, in the order in which __init__ stores them -/
def pFlds (k : Str) (t : Addr) (d z : Int) : List (Str × V) := putF "size" (.int z) (putF "depth" (.int d) (putF "parts" (.ref t) (putF "kind" (.str k) [])))
theorem n1 : ¬ (("kind" : Str) = "parts") := by decide +kernel
theorem n2 : ¬ (("kind" : Str) = "depth") := by decide +kernel
theorem n3 : ¬ (("kind" : Str) = "size") := by decide +kernel
theorem n4 : ¬ (("parts" : Str) = "depth") := by decide +kernel
theorem n5 : ¬ (("parts" : Str) = "size") := by decide +kernel
theorem n6 : ¬ (("depth" : Str) = "size") := by decide +kernel
theorem pf_kind {k : Str} {t : Addr} {d z : Int} : (pFlds k t d z).lookup ("kind" : Str) = some (.str k) := by
  unfold pFlds
  rw [lookup_putF, if_neg n3, lookup_putF, if_neg n2, lookup_putF, if_neg n1, lookup_putF, if_pos rfl]
theorem pf_parts {k : Str} {t : Addr} {d z : Int} : (pFlds k t d z).lookup ("parts" : Str) = some (.ref t) := by
  unfold pFlds
  rw [lookup_putF, if_neg n5, lookup_putF, if_neg n4, lookup_putF, if_pos rfl]
theorem pf_depth {k : Str} {t : Addr} {d z : Int} : (pFlds k t d z).lookup ("depth" : Str) = some (.int d) := by
  unfold pFlds
  rw [lookup_putF, if_neg n6, lookup_putF, if_pos rfl]
theorem pf_size {k : Str} {t : Addr} {d z : Int} : (pFlds k t d z).lookup ("size" : Str) = some (.int z) := by
  unfold pFlds
  rw [lookup_putF, if_pos rfl]
/-- an instance of the class at C with these parts -/
def InsAt (C : Addr) (H : Hp) (a : Addr) (k : Str) (t : Addr) (d z : Int) : Prop := ∃ dx, H a = some (.ins C dx (pFlds k t d z))
mutual
/-- at a stands the process p -/
def PrAt (C : Addr) (H : Hp) (a : Addr) : Pr → Prop
  | .choice os => ∃ t ps, InsAt C H a "choice" t (1 + os.depth) (max 1 (os.len : Int) + os.sum) ∧ H t = some (.tup ps) ∧ OfsAt C H ps os
  | .new n k r => ∃ t b, InsAt C H a "new" t (1 + r.depth) (1 + r.size) ∧ H t = some (.tup [.str n, .int k, .ref b]) ∧ PrAt C H b r
  | .cond l r y n => ∃ t b c, InsAt C H a "if" t (1 + max y.depth n.depth) (1 + (y.size + n.size)) ∧ H t = some (.tup [l.v, r.v, .ref b, .ref c]) ∧ PrAt C H b y ∧ PrAt C H c n
  | .call n ops => ∃ t u, InsAt C H a "call" t 1 1 ∧ H t = some (.tup [.str n, .ref u]) ∧ H u = some (.tup (ops.map Opd.v))
def OfsAt (C : Addr) (H : Hp) (ps : List V) : Ofs → Prop
  | .nil => ps = []
  | .cons c s m op ns r os => ∃ o u b qs, ps = .ref o :: qs ∧ H o = some (.tup [.str c, .int s, .int m, op.v, .ref u, .ref b]) ∧ H u = some (.tup (ns.map V.str)) ∧ PrAt C H b r ∧ OfsAt C H qs os
end
theorem InsAt.ex {C : Addr} {H H' : Hp} {a : Addr} {k : Str} {t : Addr} {d z : Int} (e : Ex H H') (h : InsAt C H a k t d z) : InsAt C H' a k t d z := by
  obtain ⟨dx, h⟩ := h
  exact ⟨dx, e _ _ h⟩
mutual
theorem PrAt.ex {C : Addr} {H H' : Hp} (e : Ex H H') : ∀ {p : Pr} {a : Addr}, PrAt C H a p → PrAt C H' a p
  | .choice os, a, h => by
    unfold PrAt at h ⊢
    obtain ⟨t, ps, h1, h2, h3⟩ := h
    exact ⟨t, ps, h1.ex e, e _ _ h2, OfsAt.ex e h3⟩
  | .new n k r, a, h => by
    unfold PrAt at h ⊢
    obtain ⟨t, b, h1, h2, h3⟩ := h
    exact ⟨t, b, h1.ex e, e _ _ h2, PrAt.ex e h3⟩
  | .cond l r y n, a, h => by
    unfold PrAt at h ⊢
    obtain ⟨t, b, c, h1, h2, h3, h4⟩ := h
    exact ⟨t, b, c, h1.ex e, e _ _ h2, PrAt.ex e h3, PrAt.ex e h4⟩
  | .call n ops, a, h => by
    unfold PrAt at h ⊢
    obtain ⟨t, u, h1, h2, h3⟩ := h
    exact ⟨t, u, h1.ex e, e _ _ h2, e _ _ h3⟩
theorem OfsAt.ex {C : Addr} {H H' : Hp} (e : Ex H H') : ∀ {os : Ofs} {ps : List V}, OfsAt C H ps os → OfsAt C H' ps os
  | .nil, ps, h => by
    unfold OfsAt at h ⊢
    exact h
  | .cons c s m op ns r os, ps, h => by
    unfold OfsAt at h ⊢
    obtain ⟨o, u, b, qs, h1, h2, h3, h4, h5⟩ := h
    exact ⟨o, u, b, qs, h1, e _ _ h2, e _ _ h3, PrAt.ex e h4, OfsAt.ex e h5⟩
end
/-- whatever the process: its instance -/
theorem PrAt.ins {C : Addr} {H : Hp} {p : Pr} {a : Addr} (h : PrAt C H a p) : ∃ t ps, InsAt C H a p.kind t p.depth p.size ∧ H t = some (.tup ps) := by
  cases p with
  | choice os =>
    unfold PrAt at h
    obtain ⟨t, ps, h1, h2, _⟩ := h
    exact ⟨t, ps, by unfold Pr.kind Pr.depth Pr.size; exact h1, h2⟩
  | new n k r =>
    unfold PrAt at h
    obtain ⟨t, b, h1, h2, _⟩ := h
    exact ⟨t, _, by unfold Pr.kind Pr.depth Pr.size; exact h1, h2⟩
  | cond l r y n =>
    unfold PrAt at h
    obtain ⟨t, b, c, h1, h2, _⟩ := h
    exact ⟨t, _, by unfold Pr.kind Pr.depth Pr.size; exact h1, h2⟩
  | call n ops =>
    unfold PrAt at h
    obtain ⟨t, u, h1, h2, _⟩ := h
    exact ⟨t, _, by unfold Pr.kind Pr.depth Pr.size; exact h1, h2⟩
end Fs

set_option Elab.async false
set_option linter.all false
set_option maxRecDepth 100000
set_option maxHeartbeats 2000000
namespace Fs
open PySem L2 Evl FsE FsC
def topS (i : Nat) : Stmt := PySem.Challenge.pw_fullseats_k16_processes_read_back.main.body.getD i (.Pass ⟨0, 0, 0, 0⟩)
/-! ### names -/
def lettersS : Str := "abcdefghijklmnopqrstuvwxyz"
def digitsS : Str := "0123456789"
def reservedV : List V := [.str "stop", .str "new", .str "if", .str "then", .str "else", .str "put", .str "get", .str "channel", .str "at", .str "define", .str "start"]
def signOk (c : Nat) : Bool := decide (c ∈ lettersS.cps.toList) || decide (c ∈ digitsS.cps.toList)
def nameS (z : Str) : Bool := decide (1 ≤ z.length) && decide (z.length ≤ 8) && decide (z.cps.toList.headD 0 ∈ lettersS.cps.toList) && !inV (.str z) reservedV && z.cps.toList.all signOk
def nameV : V → Bool
  | .str z => nameS z
  | _ => false
/-- an operand's kind of value: an int, or a text of a length within the line -/
def OpV : V → Prop
  | .int _ => True
  | .str z => z.length ≤ 40000
  | _ => False
def spPred (f : V → Bool) : Sp := fun vs H Q _ => ∃ v, vs = [v] ∧ OpV v ∧ RetV (.bl (f v)) H Q
def GC (mg : Str → Option Value) (x : Str) (v : V) : Prop := ∃ u, mg x = some u ∧ RelV v u
structure BasT (K : PySem.W.Frag) (mg : Str → Option Value) : Prop where
  letters : GC mg "LETTERS" (.str lettersS)
  digits : GC mg "DIGITS" (.str digitsS)
  nlen : GC mg "NAME_LENGTH" (.int 8)
  reserved : ∃ a, mg "RESERVED" = some (.ref a) ∧ ∀ H, SqT K H a reservedV
  toolong : GC mg "TOO_LONG" (.int (10 ^ 30))
  seats : GC mg "MOST_SEATS" (.int 4)
  isinst : mg "isinstance" = none
  str : mg "str" = none
  int : mg "int" = none
  bool : mg "bool" = none
  len : mg "len" = none
  all : mg "all" = none
theorem str_len (z : Str) : z.length = z.cps.toList.length := by
  unfold Str.length
  rw [Array.length_toList]
section
variable {P : Program} {w : World} {K : PySem.W.Frag} {mg : Str → Option Value} {base : Heap}
theorem scName : FnScope ["text", "sign"] ["text"] (defScope (topS 9)) := ⟨rfl, rfl, rfl, by decide +kernel, rfl, by decide +kernel, by decide +kernel⟩
theorem ok_is_name {f : Addr} {fd : FuncData} (F : Fun K "is_name" "is_name" (topS 9) f fd) (T : BasT K mg) : FnOk P w K mg base CX0 1 f fd ["text"] (spPred nameV) := by
  refine F.ok scName (fun vs H Q E h => ?_) (fun cdv A outer s H vs Q E hr h => ?_)
  · obtain ⟨v, rfl, _⟩ := h
    rfl
  · obtain ⟨v, rfl, hv, k⟩ := h
    obtain ⟨aR, gR, hR⟩ := T.reserved
    refine ⟨_, pss_cons (ps_if (PW.pt (pw_or (pt_not (pt_val (pe_callB call_isi (by rfl) T.isinst (by decide +kernel) (pa_cons (pv 0) (pa_cons (pe_bltn (v := .ty "str") (by rfl) T.str (by decide +kernel) rfl) pa_nil)))))
        (pw_or1 (pt_not (pt_chain op_le op_le pe_int (pe_callB call_len_str (by rfl) T.len PySem.boot_len (pa_cons (pv 0) pa_nil)) (C8.pe_gc (by rfl) T.nlen)))))) (pss_one (ps_ret pe_bl)) pss_nil)
      (pss_cons (ps_if (PW.pt (pw_or (pt_cmpR op_notIn_sign (pe_ix ix_str (pv 0) pe_int (fun _ _ => rfl)) (C8.pe_gc (by rfl) T.letters) (by rfl))
        (pw_or1 (pt_cmpR op_in_seq (pv 0) (pe_glob (v := .ref aR) (by rfl) gR rfl) (by rfl))))) (pss_one (ps_ret pe_bl)) pss_nil)
      (pss_one (ps_ret (pe_callB (cr_all rfl) (by rfl) T.all (by decide +kernel) (pa_cons
        (pe_lc (own := [("sign", 1)]) (g := gName 1) (tt := tYes) rfl scName.nd (pi_str (pv 0)) (blkOk_by (own := [("sign", 1)]) (N := ["text", "sign"]) (sc := defScope (topS 9)) (by decide +kernel))
          (fun _ _ _ _ _ => pg_name (i := 1) scName.nd rfl (Or.inl rfl)) (fun _ _ _ _ _ => pts_nil)
          (fun _ _ _ _ _ => pe_or (pe_cmpR op_in_sign (pv 1) (C8.pe_gc (by rfl) T.letters) (by rfl)) (pe_one (pe_cmpR op_in_sign (pv 1) (C8.pe_gc (by rfl) T.digits) (by rfl))))) pa_nil))))), ?_⟩
    cases v with
    | int i =>
      refine q_when (b := true) (et_is (et_or (et_not (et_B (ev_cb (ea_cons (ev_var rfl) (ea_cons ev_c ea_nil)) (rc_isInt (b := false) (by decide +kernel))))) (fun q => nomatch q) (b := true)) rfl) (fun _ H1 e1 => ?_) (fun q => nomatch q)
      exact s_ret ev_c fun H2 e2 => k H2 (e1.trans e2)
    | str z =>
      have hz : z.length ≤ 40000 := hv
      have hz2 : z.length ≤ sizeLine := sz_of (by omega)
      refine q_when (b := !(decide ((1 : Int) ≤ (z.length : Nat)) && decide (((z.length : Nat) : Int) ≤ 8))) (et_is (et_or (et_not (et_B (ev_cb (ea_cons (ev_var rfl) (ea_cons ev_c ea_nil)) (rc_isStr (b := true) (by decide +kernel)))))
        (fun _ => et_not (et_test (ev_chain ev_c (ev_cb (ea_cons (ev_var rfl) ea_nil) (rc_lenS hz2)) rv_I0 (fun _ => ev_c) (fun _ => rv_I0))))) rfl) (fun hb H1 e1 => ?_) (fun hb H1 e1 => ?_)
      · refine s_ret ev_c fun H2 e2 => ?_
        have e : nameV (.str z) = false := by
          show nameS z = false
          unfold nameS
          have : (decide (1 ≤ z.length) && decide (z.length ≤ 8)) = false := by
            have hb' : ((z.length : Nat) : Int) < 1 ∨ 8 < ((z.length : Nat) : Int) := by simpa using hb
            simp only [Bool.and_eq_false_iff, decide_eq_false_iff_not]
            omega
          rw [this]
          rfl
        have q := k H2 (e1.trans e2)
        rw [e] at q
        exact q
      · have hb' : 1 ≤ z.length ∧ z.length ≤ 8 := by
          have : ((1 : Int) ≤ (z.length : Nat) ∧ ((z.length : Nat) : Int) ≤ 8) := by simpa using hb
          omega
        obtain ⟨c, r, hc⟩ : ∃ c r, z.cps.toList = c :: r := by
          cases e : z.cps.toList with
          | nil =>
            have := str_len z
            rw [e] at this
            simp at this
            omega
          | cons c r => exact ⟨c, r, rfl⟩
        have h0 : atI z.cps.toList 0 = some c := atI_nat (j := 0) (by rw [hc]; rfl)
        refine q_when (b := !decide (c ∈ lettersS.cps.toList) || inV (.str z) reservedV) (et_or (et_test (ev_op (ev_op (ev_var rfl) ev_c (rv_ixS (by omega) h0)) ev_c rv_niSign))
          (fun _ => et_test (ev_op (ev_var rfl) ev_c (rv_isT (hR _) rfl (by decide +kernel))))) (fun hb2 H2 e2 => ?_) (fun hb2 H2 e2 => ?_)
        · refine s_ret ev_c fun H3 e3 => ?_
          have e : nameV (.str z) = false := by
            show nameS z = false
            unfold nameS
            rw [hc]
            have : (decide (c ∈ lettersS.cps.toList) && !inV (.str z) reservedV) = false := by
              rw [Bool.or_eq_true] at hb2
              rcases hb2 with hb2 | hb2
              · have : decide (c ∈ lettersS.cps.toList) = false := by simpa using hb2
                rw [this]
                rfl
              · rw [hb2]
                simp
            show (decide (1 ≤ z.length) && decide (z.length ≤ 8) && decide (c ∈ lettersS.cps.toList) && !inV (.str z) reservedV && (c :: r).all signOk) = false
            rw [Bool.and_assoc (decide (1 ≤ z.length) && decide (z.length ≤ 8)), this]
            simp
          have q := k H3 ((e1.trans e2).trans e3)
          rw [e] at q
          exact q
        · refine s_ret (ev_all (bs := z.cps.toList.map signOk) (by
            rw [List.map_map]
            exact el_lcSm (V.bl ∘ signOk) (ev_var rfl) (by omega) (fun _ => rfl) (fun c H3 _ _ => ev_orV (ev_op (ev_var rfl) ev_c rv_inSign) (fun _ => ev_op (ev_var rfl) ev_c rv_inSign)))) fun H3 e3 => ?_
          have e : nameV (.str z) = (z.cps.toList.map signOk).all id := by
            show nameS z = _
            unfold nameS
            rw [hc]
            rw [Bool.or_eq_false_iff] at hb2
            have a1 : decide (c ∈ lettersS.cps.toList) = true := by simpa using hb2.1
            show (decide (1 ≤ z.length) && decide (z.length ≤ 8) && decide (c ∈ lettersS.cps.toList) && !inV (.str z) reservedV && (c :: r).all signOk) = _
            rw [decide_eq_true hb'.1, decide_eq_true hb'.2, a1, hb2.2, List.all_map]
            rfl
          have q := k H3 ((e1.trans e2).trans e3)
          rw [e] at q
          exact q
    | _ => exact hv.elim
/-! ### integers, operands, seats -/
def intV : V → Bool
  | .int _ => true
  | _ => false
def shortV : V → Bool
  | .int i => decide (-(10 ^ 30) < i) && decide (i < 10 ^ 30)
  | _ => false
def operandV (v : V) : Bool := shortV v || nameV v
def seatsV : V → Bool
  | .int i => decide (1 ≤ i) && decide (i ≤ 4)
  | _ => false
theorem sp_pred {f : V → Bool} {v : V} {H : Hp} (h : OpV v) : SpV (spPred f) [v] H (.bl (f v)) := fun H1 _ Q q E => ⟨v, rfl, h, fun H2 e => q H2 e⟩
theorem scInt : FnScope ["value"] ["value"] (defScope (topS 11)) := ⟨rfl, rfl, rfl, by decide +kernel, rfl, by decide +kernel, by decide +kernel⟩
theorem ok_is_int {f : Addr} {fd : FuncData} (F : Fun K "is_int" "is_int" (topS 11) f fd) (T : BasT K mg) : FnOk P w K mg base CX0 1 f fd ["value"] (spPred intV) := by
  refine F.ok scInt (fun vs H Q E h => ?_) (fun cdv A outer s H vs Q E hr h => ?_)
  · obtain ⟨v, rfl, _⟩ := h
    rfl
  · obtain ⟨v, rfl, hv, k⟩ := h
    refine ⟨_, pss_one (ps_ret (pe_and (pe_callB call_isi (by rfl) T.isinst (by decide +kernel) (pa_cons (pv 0) (pa_cons (pe_bltn (v := .ty "int") (by rfl) T.int (by decide +kernel) rfl) pa_nil)))
      (pe_one (pe_not (pe_callB call_isi (by rfl) T.isinst (by decide +kernel) (pa_cons (pv 0) (pa_cons (pe_bltn (v := .ty "bool") (by rfl) T.bool (by decide +kernel) rfl) pa_nil))))))), ?_⟩
    cases v with
    | int i => exact s_ret (ev_andV (a := true) (b := true) (ev_cb (ea_cons (ev_var rfl) (ea_cons ev_c ea_nil)) (rc_isInt (by decide +kernel)))
        (fun _ => ev_notV (a := false) (ev_cb (ea_cons (ev_var rfl) (ea_cons ev_c ea_nil)) (rc_isInt (by decide +kernel))))) k
    | str z => exact s_ret (ev_andV (a := false) (b := true) (ev_cb (ea_cons (ev_var rfl) (ea_cons ev_c ea_nil)) (rc_isStr (by decide +kernel))) (fun q => nomatch q)) k
    | _ => exact hv.elim
theorem scShort : FnScope ["value"] ["value"] (defScope (topS 12)) := ⟨rfl, rfl, rfl, by decide +kernel, rfl, by decide +kernel, by decide +kernel⟩
theorem ok_is_short {f : Addr} {fd : FuncData} (F : Fun K "is_short" "is_short" (topS 12) f fd) (T : BasT K mg) (GI : CalX P w K mg base CX0 1 "is_int" (spPred intV)) : FnOk P w K mg base CX0 2 f fd ["value"] (spPred shortV) := by
  refine F.ok scShort (fun vs H Q E h => ?_) (fun cdv A outer s H vs Q E hr h => ?_)
  · obtain ⟨v, rfl, _⟩ := h
    rfl
  · obtain ⟨v, rfl, hv, k⟩ := h
    refine ⟨_, pss_one (ps_ret (pe_and (pe_cx (E := fun _ => E0) GI hr (by decide) (by rfl) at0 (pa_cons (pv 0) pa_nil))
      (pe_one (pe_chain op_lt op_lt (pe_un un_neg (C8.pe_gc (by rfl) T.toolong)) (pv 0) (C8.pe_gc (by rfl) T.toolong))))), ?_⟩
    cases v with
    | int i => exact s_ret (ev_andV (a := true) (ev_cx (ea_cons (ev_var rfl) ea_nil) (sp_pred hv)) (fun _ => ev_chain (ev_un ev_c ru_neg) (ev_var rfl) rv_I0 (fun _ => ev_c) (fun _ => rv_I0))) k
    | str z => exact s_ret (ev_andV (a := false) (b := true) (ev_cx (ea_cons (ev_var rfl) ea_nil) (sp_pred hv)) (fun q => nomatch q)) k
    | _ => exact hv.elim
theorem scOperand : FnScope ["part"] ["part"] (defScope (topS 13)) := ⟨rfl, rfl, rfl, by decide +kernel, rfl, by decide +kernel, by decide +kernel⟩
theorem ok_is_operand {f : Addr} {fd : FuncData} (F : Fun K "is_operand" "is_operand" (topS 13) f fd) (GS : CalX P w K mg base CX0 2 "is_short" (spPred shortV)) (GN : CalX P w K mg base CX0 1 "is_name" (spPred nameV)) :
    FnOk P w K mg base CX0 3 f fd ["part"] (spPred operandV) := by
  refine F.ok scOperand (fun vs H Q E h => ?_) (fun cdv A outer s H vs Q E hr h => ?_)
  · obtain ⟨v, rfl, _⟩ := h
    rfl
  · obtain ⟨v, rfl, hv, k⟩ := h
    refine ⟨_, pss_one (ps_ret (pe_or (pe_cx (E := fun _ => E0) GS hr (by decide) (by rfl) at0 (pa_cons (pv 0) pa_nil)) (pe_one (pe_cx (E := fun _ => E0) GN hr (by decide) (by rfl) at0 (pa_cons (pv 0) pa_nil))))), ?_⟩
    exact s_ret (ev_orV (ev_cx (ea_cons (ev_var rfl) ea_nil) (sp_pred hv)) (fun _ => ev_cx (ea_cons (ev_var rfl) ea_nil) (sp_pred hv))) k
theorem scSeats : FnScope ["count"] ["count"] (defScope (topS 14)) := ⟨rfl, rfl, rfl, by decide +kernel, rfl, by decide +kernel, by decide +kernel⟩
theorem ok_is_seats {f : Addr} {fd : FuncData} (F : Fun K "is_seats" "is_seats" (topS 14) f fd) (T : BasT K mg) (GI : CalX P w K mg base CX0 1 "is_int" (spPred intV)) : FnOk P w K mg base CX0 2 f fd ["count"] (spPred seatsV) := by
  refine F.ok scSeats (fun vs H Q E h => ?_) (fun cdv A outer s H vs Q E hr h => ?_)
  · obtain ⟨v, rfl, _⟩ := h
    rfl
  · obtain ⟨v, rfl, hv, k⟩ := h
    refine ⟨_, pss_one (ps_ret (pe_and (pe_cx (E := fun _ => E0) GI hr (by decide) (by rfl) at0 (pa_cons (pv 0) pa_nil))
      (pe_one (pe_chain op_le op_le pe_int (pv 0) (C8.pe_gc (by rfl) T.seats))))), ?_⟩
    cases v with
    | int i => exact s_ret (ev_andV (a := true) (ev_cx (ea_cons (ev_var rfl) ea_nil) (sp_pred hv)) (fun _ => ev_chain ev_c (ev_var rfl) rv_I0 (fun _ => ev_c) (fun _ => rv_I0))) k
    | str z => exact s_ret (ev_andV (a := false) (b := true) (ev_cx (ea_cons (ev_var rfl) ea_nil) (sp_pred hv)) (fun q => nomatch q)) k
    | _ => exact hv.elim
end
end Fs

set_option Elab.async false
set_option linter.all false
set_option maxRecDepth 100000
set_option maxHeartbeats 2000000
namespace Fs
open PySem L2 Evl FsE FsC
structure LawT (K : PySem.W.Frag) (mg : Str → Option Value) : Prop where
  len : mg "len" = none
  int : mg "int" = none
  abs : mg "abs" = none
  range : mg "range" = none
section
variable {P : Program} {w : World} {K : PySem.W.Frag} {mg : Str → Option Value} {base : Heap}
theorem rc_int {K : PySem.W.Frag} {i : Int} {H : Hp} : RC (fun xs H Q => (∃ i, xs = [V.int i] ∧ Q (.int i) H) ∨ ∃ k, xs = [V.bl k] ∧ Q (.int (if k then 1 else 0)) H) [.int i] H (.int i) := fun H1 _ Q q => .inl ⟨i, rfl, q H1 (Ex.refl H1)⟩
/-- _law_cell_at(script, k): some int -/
def spCellAt (K : PySem.W.Frag) : Sp := fun vs H Q _ => ∃ (a : Addr) (ns : List Int) (k : Nat), vs = [.ref a, .int (k : Int)] ∧ SqL K H a (ns.map V.int) ∧ ∀ i : Int, RetV (.int i) H Q
theorem scCellAt : FnScope ["_law_script", "_law_k"] ["_law_script", "_law_k"] (defScope (topS 48)) := ⟨rfl, rfl, rfl, by decide +kernel, rfl, by decide +kernel, by decide +kernel⟩
theorem ok_cell_at {f : Addr} {fd : FuncData} (F : Fun K "_law_cell_at" "_law_cell_at" (topS 48) f fd) (T : LawT K mg) : FnOk P w K mg base CX0 1 f fd ["_law_script", "_law_k"] (spCellAt K) := by
  refine F.ok scCellAt (fun vs H Q E h => ?_) (fun cdv A outer s H vs Q E hr h => ?_)
  · obtain ⟨a, ns, k, rfl, _⟩ := h
    rfl
  · obtain ⟨a, ns, k, rfl, hS, q⟩ := h
    refine ⟨_, pss_cons (ps_if (pt_cmpR op_lt (pv 1) (pe_callB call_len_seq (by rfl) T.len PySem.boot_len (pa_cons (pv 0) pa_nil)) (nomark _)) (pss_one (ps_ret (pe_ix ix_list (pv 0) (pv 1) (fun _ _ => rfl)))) pss_nil) (pss_one (ps_ret pe_int)), ?_⟩
    refine q_when (b := decide ((k : Int) < ((ns.map V.int).length : Nat))) (et_test (ev_op (ev_var rfl) (ev_cb (ea_cons (ev_var rfl) ea_nil) (fun H2 e2 Q' q' => ⟨a, _, rfl, .inl (ex_l e2 hS), q' H2 (Ex.refl H2)⟩)) rv_I0)) (fun hb H1 e1 => ?_) (fun hb H1 e1 => ?_)
    · have hk : k < ns.length := by
        have : (k : Int) < ((ns.map V.int).length : Nat) := by simpa using hb
        rw [List.length_map] at this
        omega
      refine s_ret (v := .int ns[k]) (ev_op (ev_var rfl) (ev_var rfl) (rv_ixL (ex_l e1 hS) (atI_nat (by rw [List.getElem?_map, List.getElem?_eq_getElem hk]; rfl)))) (fun H2 e2 => q _ H2 (e1.trans e2))
    · exact s_ret ev_c (fun H2 e2 => q _ H2 (e1.trans e2))
/-- _law_mixed(cell, k): some int -/
def spMixed : Sp := fun vs H Q _ => ∃ (c : Int) (k : Nat), vs = [.int c, .int (k : Int)] ∧ k ≤ 1000 ∧ ∀ i : Int, RetV (.int i) H Q
theorem scMixed : FnScope ["_law_cell", "_law_k"] ["_law_cell", "_law_k"] (defScope (topS 49)) := ⟨rfl, rfl, rfl, by decide +kernel, rfl, by decide +kernel, by decide +kernel⟩
theorem ok_mixed {f : Addr} {fd : FuncData} (F : Fun K "_law_mixed" "_law_mixed" (topS 49) f fd) (T : LawT K mg) : FnOk P w K mg base CX0 1 f fd ["_law_cell", "_law_k"] spMixed := by
  refine F.ok scMixed (fun vs H Q E h => ?_) (fun cdv A outer s H vs Q E hr h => ?_)
  · obtain ⟨c, k, rfl, _⟩ := h
    rfl
  · obtain ⟨c, k, rfl, hk, q⟩ := h
    refine ⟨_, pss_one (ps_ret (pe_op op_mod (pe_op op_mul (pe_callTy call_int1 (by rfl) T.int (by decide +kernel) (pa_cons (pe_op op_add (pe_op op_mod (pe_op op_pow (pe_op op_add (pe_op op_add (pe_op op_mod (pe_callTy call_int1 (by rfl) T.int (by decide +kernel) (pa_cons (pv 0) pa_nil)) pe_int) (pe_op op_mul pe_int (pv 1))) pe_int) pe_int) pe_int) (pv 1)) pa_nil)) pe_int) pe_int)), ?_⟩
    have h1 := Int.emod_nonneg c (b := 2147483647) (by decide)
    have h2 := Int.emod_lt_of_pos c (b := 2147483647) (by decide)
    refine ⟨.int c, rfl, .inl ⟨c, rfl, c, 2147483647, rfl, rfl, (by decide : (0 : Int) < 2147483647), ?_⟩⟩
    refine ⟨.int (k : Int), rfl, 7919, (k : Int), rfl, rfl, .inl ⟨by decide, by decide⟩, ?_⟩
    refine ⟨c % 2147483647, 7919 * (k : Int), rfl, rfl, c % 2147483647 + 7919 * (k : Int), 104729, rfl, rfl, ?_⟩
    refine ⟨c % 2147483647 + 7919 * (k : Int) + 104729, 5, rfl, rfl, ⟨by decide, by decide, by omega⟩, ?_⟩
    refine ⟨_, 2147483647, rfl, rfl, (by decide : (0 : Int) < 2147483647), ?_⟩
    refine ⟨.int (k : Int), rfl, _, (k : Int), rfl, rfl, .inl ⟨_, rfl, _, 40692, rfl, rfl, .inr ⟨by decide, by decide⟩, ?_⟩⟩
    refine ⟨_, 2147483629, rfl, rfl, (by decide : (0 : Int) < 2147483629), ?_⟩
    exact q _ H (Ex.refl H)
/-- _law_row(cell, many): so many ints from 0 to 999 -/
def RowOk (row : List Int) : Prop := ∀ v ∈ row, 0 ≤ v ∧ v < 1000
def spRow : Sp := fun vs H Q _ => ∃ (c : Int) (n : Nat), vs = [.int c, .int (n : Int)] ∧ n ≤ 500 ∧ ∀ row : List Int, row.length = n → RowOk row → RetL (row.map V.int) H Q
theorem scRow : FnScope ["_law_cell", "_law_many", "_law_row_here", "_law_rest", "_law_k"] ["_law_cell", "_law_many"] (defScope (topS 50)) := ⟨rfl, rfl, rfl, by decide +kernel, rfl, by decide +kernel, by decide +kernel⟩
theorem rowOk_add {row : List Int} {v : Int} (h : RowOk row) (h0 : 0 ≤ v) (h1 : v < 1000) : RowOk (row ++ [v]) := fun x hx => by
  rcases List.mem_append.mp hx with hx | hx
  · exact h x hx
  · rw [List.mem_singleton.mp hx]
    exact ⟨h0, h1⟩
theorem ok_row {f : Addr} {fd : FuncData} (F : Fun K "_law_row" "_law_row" (topS 50) f fd) (T : LawT K mg) (GM : CalX P w K mg base CX0 1 "_law_mixed" spMixed) : FnOk P w K mg base CX0 2 f fd ["_law_cell", "_law_many"] spRow := by
  refine F.ok scRow (fun vs H Q E h => ?_) (fun cdv A outer s H vs Q E hr h => ?_)
  · obtain ⟨c, n, rfl, _⟩ := h
    rfl
  · obtain ⟨c, n, rfl, hn, q⟩ := h
    refine ⟨_, pss_cons (ps_set (i := 2) scRow.nd rfl (Or.inl rfl) (pe_lst pa_nil))
      (pss_cons (ps_set (i := 3) scRow.nd rfl (Or.inl rfl) pe_int)
      (pss_cut (ps_if (pt_cmpR op_ge (pe_callB call_abs (by rfl) T.abs (by decide +kernel) (pa_cons (pv 0) pa_nil)) (pe_op op_pow pe_int pe_int) (nomark _)) (pss_one (ps_set (i := 3) scRow.nd rfl (Or.inl rfl) (pe_callB call_abs (by rfl) T.abs (by decide +kernel) (pa_cons (pv 0) pa_nil)))) pss_nil)
      (pss_cons (ps_for PassesOwn.never rfl (pi_range1 rfl T.range (pa_cons (pv 1) pa_nil)) (pg_name (i := 4) scRow.nd rfl (Or.inl rfl))
        (pss_one (ps_if (pt_cmpR op_gt (pv 3) pe_int (nomark _))
          (pss_cons (ps_expr (pe_bm PySem.F.plainAttrs_list PySem.F.slot_list_append PySem.F.type_list_append mt_append (pv 2) (pa_cons (pe_op op_mod (pe_callTy call_int1 (by rfl) T.int (by decide +kernel) (pa_cons (pv 3) pa_nil)) pe_int) pa_nil)))
            (pss_one (ps_set (i := 3) scRow.nd rfl (Or.inl rfl) (pe_op op_fdiv (pv 3) pe_int))))
          (pss_one (ps_expr (pe_bm PySem.F.plainAttrs_list PySem.F.slot_list_append PySem.F.type_list_append mt_append (pv 2) (pa_cons (pe_op op_mod (pe_callTy call_int1 (by rfl) T.int (by decide +kernel) (pa_cons (pe_cx (E := fun _ => E0) GM hr (by decide) (by rfl) at0 (pa_cons (pv 0) (pa_cons (pv 4) pa_nil))) pa_nil)) pe_int) pa_nil)))))))
      (pss_one (ps_ret (pv 2)))))), ?_⟩
    refine q_asgL (xs := []) (el_lst ea_nil (by decide)) (fun l H1 hl e1 h1 => ?_)
    refine q_asg (v := .int 0) ev_c (fun H2 e2 => ?_)
    refine q_cut (M := fun σ' H' => ∃ r : Int, σ' = [some (.int c), some (.int (n : Int)), some (.ref l), some (.int r), none] ∧ Ex H H' ∧ H' l = some (.lst [])) ?_ (fun σ3 H3 ⟨r, hσ3, e3, h3⟩ => ?_)
    · refine s_when (b := decide ((10 : Int) ^ (18 : Int).toNat ≤ if c < 0 then -c else c)) (et_test (ev_op (ev_cb (ea_cons (ev_var rfl) ea_nil) (fun H4 _ Q' q' => ⟨c, rfl, q' H4 (Ex.refl H4)⟩)) (ev_op ev_c ev_c (rv_I ⟨by decide, by decide, by decide⟩)) rv_I0)) (fun hb H3 e3 => ?_) (fun hb H3 e3 => ?_)
      · exact s_asg (ev_cb (ea_cons (ev_var rfl) ea_nil) (fun H4 _ Q' q' => ⟨c, rfl, q' H4 (Ex.refl H4)⟩)) (fun H4 e4 => ⟨_, rfl, ((e1.trans e2).trans e3).trans e4, (e2.trans (e3.trans e4)) _ _ h1⟩)
      · exact ⟨0, rfl, (e1.trans e2).trans e3, (e2.trans e3) _ _ h1⟩
    · subst hσ3
      refine q_forR1 (n := (n : Int)) (ea_cons (ev_var rfl) ea_nil) (by omega) (fun i σ' H' => ∃ (row : List Int) (rest : Int) (v4 : Option V), σ' = [some (.int c), some (.int (n : Int)), some (.ref l), some (.int rest), v4] ∧ H' l = some (.lst (row.map V.int)) ∧ row.length = i ∧ RowOk row ∧ Ex H H')
        (fun H4 e4 => ⟨[], r, none, rfl, e4 _ _ h3, rfl, (fun v hv => nomatch hv), e3.trans e4⟩) (fun i σ' H' hi ⟨row, rest, v4, hσ, hl', hlen, hrow, he⟩ => ?_) (fun σ' H' ⟨row, rest, v4, hσ, hl', hlen, hrow, he⟩ => ?_)
      · subst hσ
        have hsz : (row.map V.int).length < 100000 := by rw [List.length_map]; omega
        have app : ∀ v : Int, row.map V.int ++ [V.int v] = (row ++ [v]).map V.int := fun v => by rw [List.map_append]; rfl
        refine s_if (b := decide (0 < rest)) (et_test (ev_op (ev_var rfl) ev_c rv_I0)) (fun hb H4 e4 => ?_) (fun hb H4 e4 => ?_)
        · refine q_app (xs := row.map V.int) (v := .int (rest % 1000)) (e4 _ _ hl') (ev_var rfl) (ev_op (x := .int rest) (ev_cb (ea_cons (ev_var rfl) ea_nil) (rc_int (K := K))) ev_c (rv_I (by decide))) hsz (fun H5 e5 => ?_)
          refine s_asg (ev_op (x := .int rest) (ev_var rfl) ev_c (rv_I ⟨by decide, by decide⟩)) (fun H6 e6 => ?_)
          refine ⟨row ++ [rest % 1000], _, _, rfl, e6 _ _ (by rw [← app]; exact upd_same), (by rw [List.length_append, hlen]; rfl), rowOk_add hrow (Int.emod_nonneg _ (by decide)) (Int.emod_lt_of_pos _ (by decide)), (Ex.mut ((he.trans e4).trans e5) hl).trans e6⟩
        · refine ⟨_, rfl, .inl ⟨rfl, _, sq_of (e4 _ _ hl')⟩, _, rfl, _, rfl, c, i, rfl, by omega, fun m H5 e5 => .inl ⟨m, rfl, m, 1000, rfl, rfl, (by decide : (0 : Int) < 1000), l, row.map V.int, .int (m % 1000), rfl, rfl, (e4.trans e5) _ _ hl', sz_lt hsz, ?_⟩⟩
          refine ⟨row ++ [m % 1000], _, _, rfl, (by rw [← app]; exact upd_same), (by rw [List.length_append, hlen]; rfl), rowOk_add hrow (Int.emod_nonneg _ (by decide)) (Int.emod_lt_of_pos _ (by decide)), Ex.mut ((he.trans e4).trans e5) hl⟩
      · subst hσ
        have hn' : row.length = n := by simpa using hlen
        refine s_ret (ev_var rfl) (fun H4 e4 => q row hn' hrow l H4 hl (he.trans e4) (e4 _ _ hl'))
end
end Fs

set_option Elab.async false
set_option linter.all false
set_option maxRecDepth 100000
set_option maxHeartbeats 2000000
namespace Fs
open PySem L2 Evl FsE FsC FsR
/-- the parts of a process, as its tuple holds them -/
def PartsAt (C : Addr) (H : Hp) (ps : List V) : Pr → Prop
  | .choice os => OfsAt C H ps os
  | .new n k r => ∃ b, ps = [.str n, .int k, .ref b] ∧ PrAt C H b r
  | .cond l r y n => ∃ b c, ps = [l.v, r.v, .ref b, .ref c] ∧ PrAt C H b y ∧ PrAt C H c n
  | .call n ops => ∃ u, ps = [.str n, .ref u] ∧ H u = some (.tup (ops.map Opd.v))
theorem PartsAt.ex {C : Addr} {H H' : Hp} {ps : List V} {p : Pr} (e : Ex H H') (h : PartsAt C H ps p) : PartsAt C H' ps p := by
  cases p with
  | choice os => exact OfsAt.ex e h
  | new n k r =>
    obtain ⟨b, h1, h2⟩ := h
    exact ⟨b, h1, h2.ex e⟩
  | cond l r y n =>
    obtain ⟨b, c, h1, h2, h3⟩ := h
    exact ⟨b, c, h1, h2.ex e, h3.ex e⟩
  | call n ops =>
    obtain ⟨u, h1, h2⟩ := h
    exact ⟨u, h1, e _ _ h2⟩
theorem PrAt.mk {C : Addr} {H : Hp} {a t : Addr} {ps : List V} {p : Pr} (h1 : InsAt C H a p.kind t p.depth p.size) (h2 : H t = some (.tup ps)) (h3 : PartsAt C H ps p) : PrAt C H a p := by
  cases p with
  | choice os =>
    unfold PrAt
    unfold Pr.kind Pr.depth Pr.size at h1
    exact ⟨t, ps, h1, h2, h3⟩
  | new n k r =>
    unfold PrAt
    unfold Pr.kind Pr.depth Pr.size at h1
    obtain ⟨b, rfl, h4⟩ := h3
    exact ⟨t, b, h1, h2, h4⟩
  | cond l r y n =>
    unfold PrAt
    unfold Pr.kind Pr.depth Pr.size at h1
    obtain ⟨b, c, rfl, h4, h5⟩ := h3
    exact ⟨t, b, c, h1, h2, h4, h5⟩
  | call n ops =>
    unfold PrAt
    unfold Pr.kind Pr.depth Pr.size at h1
    obtain ⟨u, rfl, h4⟩ := h3
    exact ⟨t, u, h1, h2, h4⟩
theorem PrAt.out {C : Addr} {H : Hp} {a : Addr} {p : Pr} (h : PrAt C H a p) : ∃ t ps, InsAt C H a p.kind t p.depth p.size ∧ H t = some (.tup ps) ∧ PartsAt C H ps p := by
  cases p with
  | choice os =>
    unfold PrAt at h
    obtain ⟨t, ps, h1, h2, h3⟩ := h
    exact ⟨t, ps, by unfold Pr.kind Pr.depth Pr.size; exact h1, h2, h3⟩
  | new n k r =>
    unfold PrAt at h
    obtain ⟨t, b, h1, h2, h3⟩ := h
    exact ⟨t, _, by unfold Pr.kind Pr.depth Pr.size; exact h1, h2, b, rfl, h3⟩
  | cond l r y n =>
    unfold PrAt at h
    obtain ⟨t, b, c, h1, h2, h3, h4⟩ := h
    exact ⟨t, _, by unfold Pr.kind Pr.depth Pr.size; exact h1, h2, b, c, rfl, h3, h4⟩
  | call n ops =>
    unfold PrAt at h
    obtain ⟨t, u, h1, h2, h3⟩ := h
    exact ⟨t, _, by unfold Pr.kind Pr.depth Pr.size; exact h1, h2, u, rfl, h3⟩
/-! ### what is contained directly -/
def Ofs.rests : Ofs → List Pr
  | .nil => []
  | .cons _ _ _ _ _ r os => r :: os.rests
def Pr.inner : Pr → List Pr
  | .choice os => os.rests
  | .new _ _ r => [r]
  | .cond _ _ y n => [y, n]
  | .call _ _ => []
/-- a list of processes, by their addresses -/
def InnAt (C : Addr) (H : Hp) : List V → List Pr → Prop
  | [], [] => True
  | x :: xs, p :: ps => (∃ a, x = .ref a ∧ PrAt C H a p) ∧ InnAt C H xs ps
  | _, _ => False
theorem InnAt.ex {C : Addr} {H H' : Hp} (e : Ex H H') : ∀ {xs : List V} {ps : List Pr}, InnAt C H xs ps → InnAt C H' xs ps
  | [], [], _ => True.intro
  | x :: xs, p :: ps, ⟨⟨a, h1, h2⟩, h3⟩ => ⟨⟨a, h1, h2.ex e⟩, InnAt.ex e h3⟩
  | [], _ :: _, h => h.elim
  | _ :: _, [], h => h.elim
theorem InnAt.get {C : Addr} {H : Hp} : ∀ {xs : List V} {ps : List Pr} {x : V}, InnAt C H xs ps → x ∈ xs → ∃ a p, x = .ref a ∧ PrAt C H a p ∧ p ∈ ps
  | [], _, _, _, hx => nomatch hx
  | y :: xs, [], _, h, _ => h.elim
  | y :: xs, p :: ps, x, ⟨⟨a, h1, h2⟩, h3⟩, hx => by
    rcases List.mem_cons.mp hx with rfl | hx
    · exact ⟨a, p, h1, h2, List.mem_cons_self⟩
    · obtain ⟨b, q, k1, k2, k3⟩ := InnAt.get h3 hx
      exact ⟨b, q, k1, k2, List.mem_cons_of_mem _ k3⟩
theorem InnAt.length {C : Addr} {H : Hp} : ∀ {xs : List V} {ps : List Pr}, InnAt C H xs ps → xs.length = ps.length
  | [], [], _ => rfl
  | x :: xs, p :: ps, ⟨_, h⟩ => congrArg (· + 1) (InnAt.length h)
  | [], _ :: _, h => h.elim
  | _ :: _, [], h => h.elim
theorem Ofs.rests_len : ∀ os : Ofs, os.rests.length = os.len
  | .nil => rfl
  | .cons _ _ _ _ _ r os => congrArg (· + 1) (Ofs.rests_len os)
/-- the greatest depth, the sum of the sizes -/
theorem Ofs.sum_eq : ∀ os : Ofs, os.sum = (os.rests.map Pr.size).sum
  | .nil => rfl
  | .cons _ _ _ _ _ r os => by
    unfold Ofs.sum Ofs.rests
    rw [List.map_cons, List.sum_cons, Ofs.sum_eq os]
mutual
theorem Pr.depth_pos : ∀ p : Pr, 1 ≤ p.depth
  | .choice os => by
    unfold Pr.depth
    have := Ofs.depth_nn os
    omega
  | .new _ _ r => by
    unfold Pr.depth
    have := Pr.depth_pos r
    omega
  | .cond _ _ y n => by
    unfold Pr.depth
    have := Pr.depth_pos y
    have := Pr.depth_pos n
    omega
  | .call _ _ => by
    unfold Pr.depth
    omega
theorem Ofs.depth_nn : ∀ os : Ofs, 0 ≤ os.depth
  | .nil => by
    unfold Ofs.depth
    omega
  | .cons _ _ _ _ _ r os => by
    unfold Ofs.depth
    have := Pr.depth_pos r
    omega
end
theorem maxFrom_ge : ∀ (ys : List Int) (y : Int), maxFrom y ys = max y (maxFrom 0 ys) ∨ (y < 0)
  | [], y => by
    unfold maxFrom
    simp only [List.foldl_nil]
    omega
  | z :: zs, y => by
    have h1 := maxFrom_ge zs (max y z)
    have h2 := maxFrom_ge zs (max 0 z)
    unfold maxFrom at *
    simp only [List.foldl_cons]
    omega
theorem Ofs.depth_eq : ∀ os : Ofs, maxDef 0 (os.rests.map Pr.depth) = os.depth
  | .nil => rfl
  | .cons _ _ _ _ _ r os => by
    unfold Ofs.rests Ofs.depth
    rw [List.map_cons]
    show maxFrom r.depth (os.rests.map Pr.depth) = max r.depth os.depth
    have ih := Ofs.depth_eq os
    have hr := Pr.depth_pos r
    cases hr2 : os.rests.map Pr.depth with
    | nil =>
      rw [hr2] at ih
      have e0 : (0 : Int) = os.depth := ih
      unfold maxFrom
      simp only [List.foldl_nil]
      omega
    | cons y ys =>
      rw [hr2] at ih
      have e0 : maxFrom y ys = os.depth := ih
      have hy : 1 ≤ y := by
        have : y ∈ os.rests.map Pr.depth := by rw [hr2]; exact List.mem_cons_self
        obtain ⟨q, _, rfl⟩ := List.mem_map.mp this
        exact Pr.depth_pos q
      have h1 := maxFrom_ge ys y
      have h2 := maxFrom_ge ys (max r.depth y)
      show maxFrom (max r.depth y) ys = _
      omega
theorem Pr.depth_eq (p : Pr) : 1 + maxDef 0 (p.inner.map Pr.depth) = p.depth := by
  cases p with
  | choice os =>
    unfold Pr.inner Pr.depth
    rw [Ofs.depth_eq]
  | new n k r =>
    unfold Pr.depth
    rfl
  | cond l r y n =>
    unfold Pr.depth
    rfl
  | call n ops =>
    unfold Pr.depth
    rfl
def Pr.own : Pr → Int
  | .choice os => max 1 (os.len : Int)
  | _ => 1
theorem Pr.size_eq (p : Pr) : p.own + (p.inner.map Pr.size).sum = p.size := by
  cases p with
  | choice os =>
    unfold Pr.inner Pr.size Pr.own
    rw [Ofs.sum_eq]
  | new n k r =>
    unfold Pr.size Pr.own Pr.inner
    simp
  | cond l r y n =>
    unfold Pr.size Pr.own Pr.inner
    simp
  | call n ops =>
    unfold Pr.size Pr.own Pr.inner
    simp
theorem OfsAt.len {C : Addr} {H : Hp} : ∀ {os : Ofs} {ps : List V}, OfsAt C H ps os → ps.length = os.len
  | .nil, ps, h => by
    unfold OfsAt at h
    rw [h]
    rfl
  | .cons c s m op ns r os, ps, h => by
    unfold OfsAt at h
    obtain ⟨o, u, b, qs, h1, _, _, _, h5⟩ := h
    rw [h1]
    exact congrArg (· + 1) (OfsAt.len h5)
/-- the rests of the offers -/
theorem OfsAt.rests {C : Addr} {H : Hp} : ∀ {os : Ofs} {ps : List V}, OfsAt C H ps os → ∃ rs : List V, rs.length = ps.length ∧ InnAt C H rs os.rests ∧
    ∀ (i : Nat) (x : V), ps[i]? = some x → ∃ (o : Addr) (c : Str) (s m : Int) (op : Opd) (u : Addr) (y : V), x = .ref o ∧ rs[i]? = some y ∧ H o = some (.tup [.str c, .int s, .int m, op.v, .ref u, y])
  | .nil, ps, h => by
    unfold OfsAt at h
    subst h
    exact ⟨[], rfl, True.intro, fun i x hx => by simp at hx⟩
  | .cons c s m op ns r os, ps, h => by
    unfold OfsAt at h
    obtain ⟨o, u, b, qs, rfl, h2, h3, h4, h5⟩ := h
    obtain ⟨rs, k1, k2, k3⟩ := OfsAt.rests h5
    refine ⟨.ref b :: rs, congrArg (· + 1) k1, ⟨⟨b, rfl, h4⟩, k2⟩, fun i x hx => ?_⟩
    cases i with
    | zero =>
      have e : V.ref o = x := by simpa using hx
      subst e
      exact ⟨o, c, s, m, op, u, .ref b, rfl, rfl, h2⟩
    | succ i =>
      obtain ⟨o', c', s', m', op', u', y', z1, z2, z3⟩ := k3 i x (by simpa using hx)
      exact ⟨o', c', s', m', op', u', y', z1, by simpa using z2, z3⟩
/-- rs: what a process with these parts contains directly -/
def InnOf (C : Addr) (H : Hp) (ps rs : List V) : Pr → Prop
  | .choice os => rs.length = ps.length ∧ InnAt C H rs os.rests ∧
    ∀ (i : Nat) (x : V), ps[i]? = some x → ∃ (o : Addr) (c : Str) (s m : Int) (op : Opd) (u : Addr) (y : V), x = .ref o ∧ rs[i]? = some y ∧ H o = some (.tup [.str c, .int s, .int m, op.v, .ref u, y])
  | .new n k r => ∃ b, ps = [.str n, .int k, .ref b] ∧ rs = [.ref b] ∧ PrAt C H b r
  | .cond l r y n => ∃ b c, ps = [l.v, r.v, .ref b, .ref c] ∧ rs = [.ref b, .ref c] ∧ PrAt C H b y ∧ PrAt C H c n
  | .call n ops => ∃ u, ps = [.str n, .ref u] ∧ rs = [] ∧ H u = some (.tup (ops.map Opd.v))
theorem InnOf.ex {C : Addr} {H H' : Hp} {ps rs : List V} {p : Pr} (e : Ex H H') (h : InnOf C H ps rs p) : InnOf C H' ps rs p := by
  cases p with
  | choice os =>
    obtain ⟨h1, h2, h3⟩ := h
    refine ⟨h1, h2.ex e, fun i x hx => ?_⟩
    obtain ⟨o, c, s, m, op, u, y, z1, z2, z3⟩ := h3 i x hx
    exact ⟨o, c, s, m, op, u, y, z1, z2, e _ _ z3⟩
  | new n k r =>
    obtain ⟨b, h1, h2, h3⟩ := h
    exact ⟨b, h1, h2, h3.ex e⟩
  | cond l r y n =>
    obtain ⟨b, c, h1, h2, h3, h4⟩ := h
    exact ⟨b, c, h1, h2, h3.ex e, h4.ex e⟩
  | call n ops =>
    obtain ⟨u, h1, h2, h3⟩ := h
    exact ⟨u, h1, h2, e _ _ h3⟩
theorem PartsAt.inn {C : Addr} {H : Hp} {ps : List V} {p : Pr} (h : PartsAt C H ps p) : ∃ rs, InnOf C H ps rs p := by
  cases p with
  | choice os =>
    obtain ⟨rs, h1, h2, h3⟩ := OfsAt.rests h
    exact ⟨rs, h1, h2, h3⟩
  | new n k r =>
    obtain ⟨b, h1, h2⟩ := h
    exact ⟨[.ref b], b, h1, rfl, h2⟩
  | cond l r y n =>
    obtain ⟨b, c, h1, h2, h3⟩ := h
    exact ⟨[.ref b, .ref c], b, c, h1, rfl, h2, h3⟩
  | call n ops =>
    obtain ⟨u, h1, h2⟩ := h
    exact ⟨[], u, h1, rfl, h2⟩
theorem InnOf.at {C : Addr} {H : Hp} {ps rs : List V} {p : Pr} (h : InnOf C H ps rs p) : InnAt C H rs p.inner := by
  cases p with
  | choice os => exact h.2.1
  | new n k r =>
    obtain ⟨b, _, rfl, h3⟩ := h
    exact ⟨⟨b, rfl, h3⟩, True.intro⟩
  | cond l r y n =>
    obtain ⟨b, c, _, rfl, h3, h4⟩ := h
    exact ⟨⟨b, rfl, h3⟩, ⟨c, rfl, h4⟩, True.intro⟩
  | call n ops =>
    obtain ⟨u, _, rfl, _⟩ := h
    exact True.intro
theorem InnAt.at_ {C : Addr} {H : Hp} : ∀ {xs : List V} {ps : List Pr} {i : Nat} {x : V}, InnAt C H xs ps → xs[i]? = some x → ∃ a p, x = .ref a ∧ PrAt C H a p ∧ ps[i]? = some p
  | [], _, _, _, _, hx => by simp at hx
  | y :: xs, [], _, _, h, _ => h.elim
  | y :: xs, p :: ps, 0, x, ⟨⟨a, h1, h2⟩, h3⟩, hx => by
    have e : y = x := by simpa using hx
    subst e
    exact ⟨a, p, h1, h2, rfl⟩
  | y :: xs, p :: ps, i + 1, x, ⟨_, h3⟩, hx => by
    obtain ⟨b, q, k1, k2, k3⟩ := InnAt.at_ (i := i) h3 (by simpa using hx)
    exact ⟨b, q, k1, k2, by simpa using k3⟩
end Fs

set_option Elab.async false
set_option linter.all false
set_option maxRecDepth 100000
set_option maxHeartbeats 2000000
namespace Fs
open PySem L2 Evl FsE FsC FsR
/-! ### what raises: an own error of one argument -/
/-- X(e) made, to be raised: its own dict d, new, holds the argument under f -/
def tMkE (C : Addr) (f : Str) (ta : TA) : L2.St → Hp → XK → Prop := fun σ H Q => ta σ H fun vs H1 => ∃ z : Str, vs = [.str z] ∧ z.length ≤ 1000 ∧ ∀ d, H1 d = none → Q (.ref C) (some d) (upd H1 d (.xd [(f, .str z)]))
/-- the class x at C makes such errors -/
def RaisesX (P : Program) (w : World) (K : PySem.W.Frag) (mg : Str → Option Value) (base : Heap) (x : Str) (C : Addr) (f : Str) (k : Nat) : Prop :=
  ∀ (X : Cx), X.prog = P → X.w = w → X.K = K → X.mg = mg → X.base = base → Room k X.A → ∀ (a : Expr) (ta : TA) (p pos : Pos), PA X [a] ta → Gl X x → starEach (a :: []) X.env = (false, eval a X.env) :: starEach [] X.env → (backTo pos (starEach [] X.env)).any (·.1) = false →
    PMk X (.Call (.Name x p) [a] [] pos) (tMkE C f ta)
/-- what the text has told of the terms' module -/
structure TerT (K : PySem.W.Frag) (mg : Str → Option Value) (C CB : Addr) : Prop where
  cl : Cls K C
  nK : NoAttr K C "kind"
  nP : NoAttr K C "parts"
  nD : NoAttr K C "depth"
  nS : NoAttr K C "size"
  mgC : mg "Process" = some (.ref C)
  kStr : PySem.W.kitOne K (.type "str") (.ref C) = some false
  kInt : PySem.W.kitOne K (.type "int") (.ref C) = some false
  kTup : PySem.W.kitOne K (.type "tuple") (.ref C) = some false
  ha : PySem.W.findIn K (.ref C) "__class__" = some (some (.builtin "object.__class__"))
  hn : PySem.W.specialIn K (.builtin "object.__class__") "__get__" = some (some (.builtin "getset_descriptor.__get__"))
  htk : PySem.W.takesIn K (.builtin "object.__class__") = some true
  hm : PySem.W.mroIn K C (.type "object") = some true
  sum : mg "sum" = none
  max : mg "max" = none
  tuple : mg "tuple" = none
  depth : GC mg "MOST_DEPTH" (.int 20)
  size : GC mg "MOST_SIZE" (.int 400)
theorem kOwn {K : PySem.W.Frag} {C : Addr} : PySem.W.kitOne K (.ref C) (.ref C) = some true := by
  unfold PySem.W.kitOne
  rw [if_pos (beq_self_eq_true _)]
/-- what is raised: the field f -/
def Bad (CB : Addr) (f : Str) (H : Hp) (E : XK) : Prop := ∀ (d : Addr) (H' : Hp), Ex H H' → H d = none → H' d = some (.xd [("field", .str f)]) → E (.ref CB) (some d) H'
theorem Bad.ex {CB : Addr} {f : Str} {H H' : Hp} {E : XK} (e : Ex H H') (h : Bad CB f H E) : Bad CB f H' E := fun d H2 e2 hd h2 => h d H2 (e.trans e2) (fresh_back e hd) h2
/-- demand(allowed, field) -/
def spDemand (CB : Addr) : Sp := fun vs H Q E => ∃ (b : Bool) (f : Str), vs = [.bl b, .str f] ∧ f.length ≤ 1000 ∧ (b = true → RetV .non H Q) ∧ (b = false → Bad CB f H E)
section
variable {P : Program} {w : World} {K : PySem.W.Frag} {mg : Str → Option Value} {base : Heap} {C CB : Addr}
theorem scDemand : FnScope ["allowed", "field"] ["allowed", "field"] (defScope (topS 26)) := ⟨rfl, rfl, rfl, by decide +kernel, rfl, by decide +kernel, by decide +kernel⟩
theorem ok_demand {f : Addr} {fd : FuncData} {k : Nat} (F : Fun K "demand" "demand" (topS 26) f fd) (R : RaisesX P w K mg base "BadTerm" CB "field" k) : FnOk P w K mg base (L2.CX P w) (k + 1) f fd ["allowed", "field"] (spDemand CB) := by
  refine F.okX scDemand (fun vs H Q E h => ?_) (fun cdv A outer s H vs Q E hr h => ?_)
  · obtain ⟨b, z, rfl, _⟩ := h
    rfl
  · obtain ⟨b, z, rfl, hz, k1, k2⟩ := h
    refine ⟨_, pss_one (ps_if (pt_not (pt_val (pv 0))) (pss_one (ps_raise (W := fun cls d _ H => E cls d H) rfl (takes_of rfl rfl rfl rfl) (R _ rfl rfl rfl rfl rfl hr _ _ _ _ (pa_cons (pv 1) pa_nil) (by rfl) (by rfl) (by rfl)))) pss_nil), ?_⟩
    refine s_if (et_not (et_B (ev_var rfl))) (fun hb H1 e1 => ?_) (fun hb H1 e1 => ?_)
    · have hb' : b = false := by simpa using hb
      refine ⟨_, rfl, z, rfl, hz, fun d hd => ?_⟩
      exact k2 hb' d _ (e1.trans (Ex.new hd)) (fresh_back e1 hd) upd_same
    · have hb' : b = true := by simpa using hb
      exact k1 hb' H1 e1
/-- demand(e, 'f') as a statement, what follows behind it -/
theorem q_demand {σ : L2.St} {H : Hp} {te : TE} {f : Str} {b : Bool} {E : L2.St → XK} {tz : TS} {D : Ends} (hf : f.length ≤ 1000) (h : Ev te σ H (.bl b)) (k1 : b = true → ∀ H1, Ex H H1 → tz D σ H1) (k2 : b = false → Bad CB f H (E σ)) :
    tSeq (tDrop (tCallS (spDemand CB) E (tCons te (tCons (tC (.str f)) tNil)))) tz D σ H :=
  h H (Ex.refl H) _ fun H1 e1 => ⟨b, f, rfl, hf, fun hb H2 e2 => k1 hb H2 (e1.trans e2), fun hb => (k2 hb).ex e1⟩
theorem s_demand {σ : L2.St} {H : Hp} {te : TE} {f : Str} {b : Bool} {E : L2.St → XK} {D : Ends} (hf : f.length ≤ 1000) (h : Ev te σ H (.bl b)) (k1 : b = true → ∀ H1, Ex H H1 → D.nx σ H1) (k2 : b = false → Bad CB f H (E σ)) :
    tDrop (tCallS (spDemand CB) E (tCons te (tCons (tC (.str f)) tNil))) D σ H :=
  h H (Ex.refl H) _ fun H1 e1 => ⟨b, f, rfl, hf, fun hb H2 e2 => k1 hb H2 (e1.trans e2), fun hb => (k2 hb).ex e1⟩
/-! ### what a process contains -/
theorem kNew : decide (V.str "new" = V.str "choice") = false := by decide +kernel
theorem kIf : decide (V.str "if" = V.str "choice") = false := by decide +kernel
theorem kCall : decide (V.str "call" = V.str "choice") = false := by decide +kernel
def spInner (C : Addr) : Sp := fun vs H Q _ => ∃ (p : Pr) (t : Addr) (ps rs : List V), vs = [.str p.kind, .ref t] ∧ H t = some (.tup ps) ∧ ps.length ≤ 100 ∧ InnOf C H ps rs p ∧ RetL rs H Q
theorem sp_inner {p : Pr} {t : Addr} {ps rs : List V} {H : Hp} (h1 : H t = some (.tup ps)) (h2 : ps.length ≤ 100) (h3 : InnOf C H ps rs p) : SpL (spInner C) [.str p.kind, .ref t] H rs := fun H1 e Q q E =>
  ⟨p, t, ps, rs, rfl, e _ _ h1, h2, h3.ex e, q⟩
theorem scInner : FnScope ["kind", "parts", "offer", "part"] ["kind", "parts"] (defScope (topS 27)) := ⟨rfl, rfl, rfl, by decide +kernel, rfl, by decide +kernel, by decide +kernel⟩
theorem tyx_pr (T : TerT K mg C CB) {H : Hp} {a : Addr} {p : Pr} (h : PrAt C H a p) : ∀ H1, Ex H H1 → TyX K H1 (.ref a) (.ref C) := fun H1 e => by
  obtain ⟨t, ps, ⟨dx, h1⟩, _⟩ := h.out
  exact .base (.ins (e _ _ h1) T.cl T.ha T.hn T.htk T.hm)
theorem tyx_opd (T : TerT K mg C CB) {H : Hp} (o : Opd) : ∃ t, (∀ H1, Ex H H1 → TyX K H1 o.v t) ∧ PySem.W.kitOne K t (.ref C) = some false := by
  cases o with
  | int i => exact ⟨_, fun _ _ => .base (.int i), T.kInt⟩
  | nm z => exact ⟨_, fun _ _ => .base (.str z), T.kStr⟩
theorem et_isPr {σ : L2.St} {H : Hp} {i : Nat} {x : V} {t : Value} {b : Bool} (hx : σ[i]? = some (some x)) (ht : ∀ H1, Ex H H1 → TyX K H1 x t) (hk : PySem.W.kitOne K t (.ref C) = some b) :
    EvT (L2.tB (tCB (rIsi K) (tCons (tVar i) (tCons (tC (.ref C)) tNil)))) σ H b := et_B (ev_cb (ea_cons (ev_var hx) (ea_cons ev_c ea_nil)) (rc_isiOwn ht hk))
theorem ok_inner {f : Addr} {fd : FuncData} (F : Fun K "inner_processes" "inner_processes" (topS 27) f fd) (B : BasT K mg) (T : TerT K mg C CB) : FnOk P w K mg base CX0 1 f fd ["kind", "parts"] (spInner C) := by
  refine F.ok scInner (fun vs H Q E h => ?_) (fun cdv A outer s H vs Q E hr h => ?_)
  · obtain ⟨p, t, ps, rs, rfl, _⟩ := h
    rfl
  · obtain ⟨p, t, ps, rs, rfl, ht, hl, hI, k⟩ := h
    refine ⟨_, pss_cons (ps_if (pt_cmpR op_eq (pv 0) pe_str (nomark _)) (pss_one (ps_ret (pe_lc (own := [("offer", 2)]) (g := gName 2) (tt := tYes) rfl scInner.nd (pi_tup (pv 1)) (blkOk_by (own := [("offer", 2)]) (N := ["kind", "parts", "offer", "part"]) (sc := defScope (topS 27)) (by decide +kernel))
          (fun _ _ _ _ _ => pg_name (i := 2) scInner.nd rfl (Or.inl rfl)) (fun _ _ _ _ _ => pts_nil) (fun _ _ _ _ _ => pe_ix (r := rIxT K) ix_tup (pv 2) (pe_un un_neg pe_int) (fun _ _ => rfl))))) pss_nil)
      (pss_one (ps_ret (pe_lc (own := [("part", 3)]) (g := gName 3) (tt := L2.tB (tCB (rIsi K) (tCons (tVar 3) (tCons (tC (.ref C)) tNil)))) rfl scInner.nd (pi_tup (pv 1)) (blkOk_by (own := [("part", 3)]) (N := ["kind", "parts", "offer", "part"]) (sc := defScope (topS 27)) (by decide +kernel))
          (fun _ _ _ _ _ => pg_name (i := 3) scInner.nd rfl (Or.inl rfl)) (fun _ _ _ _ _ => pts_one (pt_val (pe_callB (id := "isinstance") (r := rIsi K) call_isi (by rfl) B.isinst (by decide +kernel) (pa_cons (pv 3) (pa_cons (pe_glob (v := .ref C) (by rfl) T.mgC rfl) pa_nil))))) (fun _ _ _ _ _ => pv 3)))), ?_⟩
    cases p with
    | choice os =>
      refine q_if (b := true) (et_test (ev_op (ev_var rfl) ev_c (rv_eq rfl))) (fun _ H1 e1 => ?_) (fun q => nomatch q)
      obtain ⟨h1, h2, h3⟩ := hI.ex e1
      refine s_retL (el_lcTy (ev_var rfl) (st_of (e1 _ _ ht)) (by omega) (fun _ => rfl) h1 (fun i x y H2 e2 hx hy => ?_)) (fun q H2 hq e2 h2 => k q H2 (fresh_back e1 hq) (e1.trans e2) h2)
      obtain ⟨o, c, s, m, op, u, y', rfl, z2, z3⟩ := h3 i x hx
      have e : y' = y := by
        rw [hy] at z2
        exact (Option.some.inj z2).symm
      subst e
      exact ev_op (ev_var rfl) (ev_un ev_c ru_neg) (rv_ixT (st_of (e2 _ _ z3)) rfl)
    | new n kk r =>
      refine q_if (b := false) (et_is (et_test (ev_op (ev_var rfl) ev_c (rv_eq rfl))) kNew) (fun q => nomatch q) (fun _ H1 e1 => ?_)
      obtain ⟨b, rfl, rfl, hb⟩ := hI.ex e1
      refine s_retL (xs := [.ref b]) (el_lcT (fun i => decide (i = 2)) (fun i => .ref b) (ev_var rfl) (st_of (e1 _ _ ht)) (by show 3 ≤ 40000; decide) (fun _ => rfl) (fun i x H2 e2 hx => ?_) (fun i x H2 e2 hx hi => ?_)) (fun q H2 hq e2 h2 => k q H2 (fresh_back e1 hq) (e1.trans e2) h2)
      · match i, hx with
        | 0, hx => cases hx; exact et_isPr rfl (fun _ _ => .base (.str n)) T.kStr
        | 1, hx => cases hx; exact et_isPr rfl (fun _ _ => .base (.int kk)) T.kInt
        | 2, hx => cases hx; exact et_isPr rfl (tyx_pr T (hb.ex e2)) kOwn
      · match i, hx, hi with
        | 2, hx, _ => cases hx; exact ev_var rfl
    | cond l r y n =>
      refine q_if (b := false) (et_is (et_test (ev_op (ev_var rfl) ev_c (rv_eq rfl))) kIf) (fun q => nomatch q) (fun _ H1 e1 => ?_)
      obtain ⟨b, c, rfl, rfl, hb, hc⟩ := hI.ex e1
      refine s_retL (xs := [.ref b, .ref c]) (el_lcT (fun i => decide (2 ≤ i)) (fun i => if i = 2 then .ref b else .ref c) (ev_var rfl) (st_of (e1 _ _ ht)) (by show 4 ≤ 40000; decide) (fun _ => rfl) (fun i x H2 e2 hx => ?_) (fun i x H2 e2 hx hi => ?_)) (fun q H2 hq e2 h2 => k q H2 (fresh_back e1 hq) (e1.trans e2) h2)
      · match i, hx with
        | 0, hx => cases hx; obtain ⟨t, h1, h2⟩ := tyx_opd T l; exact et_isPr rfl h1 h2
        | 1, hx => cases hx; obtain ⟨t, h1, h2⟩ := tyx_opd T r; exact et_isPr rfl h1 h2
        | 2, hx => cases hx; exact et_isPr rfl (tyx_pr T (hb.ex e2)) kOwn
        | 3, hx => cases hx; exact et_isPr rfl (tyx_pr T (hc.ex e2)) kOwn
      · match i, hx, hi with
        | 2, hx, _ => cases hx; exact ev_var rfl
        | 3, hx, _ => cases hx; exact ev_var rfl
    | call n ops =>
      refine q_if (b := false) (et_is (et_test (ev_op (ev_var rfl) ev_c (rv_eq rfl))) kCall) (fun q => nomatch q) (fun _ H1 e1 => ?_)
      obtain ⟨u, rfl, rfl, hu⟩ := hI.ex e1
      refine s_retL (xs := []) (el_lcT (fun i => false) (fun i => .non) (ev_var rfl) (st_of (e1 _ _ ht)) (by show 2 ≤ 40000; decide) (fun _ => rfl) (fun i x H2 e2 hx => ?_) (fun i x H2 e2 hx hi => nomatch hi)) (fun q H2 hq e2 h2 => k q H2 (fresh_back e1 hq) (e1.trans e2) h2)
      match i, hx with
      | 0, hx => cases hx; exact et_isPr rfl (fun _ _ => .base (.str n)) T.kStr
      | 1, hx => cases hx; exact et_isPr rfl (fun H3 e3 => .base (.tup (e3 _ _ (e2 _ _ hu)))) T.kTup
end
end Fs

set_option Elab.async false
set_option linter.all false
set_option maxRecDepth 100000
set_option maxHeartbeats 2000000
namespace Fs
open PySem L2 Evl FsE FsC FsR
def spSize (C : Addr) (f : Pr → Int) : Sp := fun vs H Q _ => ∃ (p : Pr) (t : Addr) (ps : List V), vs = [.str p.kind, .ref t] ∧ H t = some (.tup ps) ∧ ps.length ≤ 100 ∧ PartsAt C H ps p ∧ RetV (.int (f p)) H Q
theorem sp_size {C : Addr} {f : Pr → Int} {p : Pr} {t : Addr} {ps : List V} {H : Hp} (h1 : H t = some (.tup ps)) (h2 : ps.length ≤ 100) (h3 : PartsAt C H ps p) : SpV (spSize C f) [.str p.kind, .ref t] H (.int (f p)) := fun H1 e Q q E =>
  ⟨p, t, ps, rfl, e _ _ h1, h2, h3.ex e, q⟩
theorem hu2_of {A : Around} {k : Nat} (hr : Room k A) : A.units + 1 + 1 < cLine := Nat.lt_of_le_of_lt (by omega : A.units + 1 + 1 ≤ A.units + 64) hr.units
theorem kCh : decide (V.str "choice" = V.str "choice") = true := by decide +kernel
section
variable {P : Program} {w : World} {K : PySem.W.Frag} {mg : Str → Option Value} {base : Heap} {C CB : Addr}
theorem InnOf.short {H : Hp} {ps rs : List V} {p : Pr} (h : InnOf C H ps rs p) (hl : ps.length ≤ 100) : rs.length ≤ 100 := by
  cases p with
  | choice os =>
    have := h.1
    omega
  | new n k r =>
    obtain ⟨b, _, rfl, _⟩ := h
    show 1 ≤ 100
    decide
  | cond l r y n =>
    obtain ⟨b, c, _, rfl, _⟩ := h
    show 2 ≤ 100
    decide
  | call n ops =>
    obtain ⟨u, _, rfl, _⟩ := h
    show 0 ≤ 100
    decide
/-- [process.f for process in (the list)] -/
theorem el_flds {σ : L2.St} {H : Hp} {tl : TE} {j : Nat} {vs : List Nat} {rs : List V} {ps : List Pr} {f : Str} {g : Pr → Int} (hf : ∀ {H : Hp} {a : Addr} {p : Pr}, PrAt C H a p → ∃ dx fs, H a = some (.ins C dx fs) ∧ fs.lookup f = some (.int (g p)))
    (cl : Cls K C) (n : NoAttr K C f) (h : EvL tl σ H rs) (hl : rs.length ≤ 100) (hi : InnAt C H rs ps) (hw : ∀ x, wipe ((wipe σ vs).set j (some x)) vs = wipe σ vs) (hj : ∀ x, ((wipe σ vs).set j (some x))[j]? = some (some x)) :
    EvL (tLc (iList K tl) (gName j) tYes (tFld K (tVar j) f) vs) σ H ((ps.map g).map V.int) := by
  refine el_lcNLy h (by omega) hw (by rw [List.length_map, List.length_map, hi.length]) (fun i x y H1 e hx hy => ?_)
  obtain ⟨a, p, rfl, hp, hps⟩ := InnAt.at_ (hi.ex e) hx
  obtain ⟨dx, fs, h1, h2⟩ := hf hp
  have ey : y = .int (g p) := by
    rw [List.getElem?_map, List.getElem?_map, hps] at hy
    exact (Option.some.inj hy).symm
  subst ey
  exact ev_fld (ev_var (hj _)) h1 cl n h2
theorem fld_depth {H : Hp} {a : Addr} {p : Pr} (h : PrAt C H a p) : ∃ dx fs, H a = some (.ins C dx fs) ∧ fs.lookup ("depth" : Str) = some (.int p.depth) := by
  obtain ⟨t, ps, ⟨dx, h1⟩, _⟩ := h.out
  exact ⟨dx, _, h1, pf_depth⟩
theorem fld_size {H : Hp} {a : Addr} {p : Pr} (h : PrAt C H a p) : ∃ dx fs, H a = some (.ins C dx fs) ∧ fs.lookup ("size" : Str) = some (.int p.size) := by
  obtain ⟨t, ps, ⟨dx, h1⟩, _⟩ := h.out
  exact ⟨dx, _, h1, pf_size⟩
theorem scDepth : FnScope ["kind", "parts", "process"] ["kind", "parts"] (defScope (topS 29)) := ⟨rfl, rfl, rfl, by decide +kernel, rfl, by decide +kernel, by decide +kernel⟩
theorem ok_depth {f : Addr} {fd : FuncData} (F : Fun K "depth_of" "depth_of" (topS 29) f fd) (T : TerT K mg C CB) (GI : CalX P w K mg base CX0 1 "inner_processes" (spInner C)) : FnOk P w K mg base CX0 2 f fd ["kind", "parts"] (spSize C Pr.depth) := by
  refine F.ok scDepth (fun vs H Q E h => ?_) (fun cdv A outer s H vs Q E hr h => ?_)
  · obtain ⟨p, t, ps, rfl, _⟩ := h
    rfl
  · obtain ⟨p, t, ps, rfl, ht, hl, hP, k⟩ := h
    obtain ⟨rs, hI⟩ := hP.inn
    refine ⟨_, pss_one (ps_ret (pe_op op_add pe_int (pe_callBK (ck_maxD rfl (hu2_of hr)) (by rfl) T.max (by decide +kernel) (pa_cons
      (pe_lc (own := [("process", 2)]) (g := gName 2) (tt := tYes) (te := tFld K (tVar 2) "depth") rfl scDepth.nd (pi_list (pe_cx (E := fun _ => E0) GI hr (by decide) (by rfl) at0 (pa_cons (pv 0) (pa_cons (pv 1) pa_nil)))) (blkOk_by (own := [("process", 2)]) (N := ["kind", "parts", "process"]) (sc := defScope (topS 29)) (by decide +kernel))
          (fun _ _ _ _ _ => pg_name (i := 2) scDepth.nd rfl (Or.inl rfl)) (fun _ _ _ _ _ => pts_nil) (fun _ _ _ _ _ => pe_fld (pv 2) rfl)) pa_nil) (pk_cons pe_int pk_nil)))), ?_⟩
    have g : Ev (tOp (rI0 fun i j => .int (i + j)) (tC (.int 1)) (tCKw (FsR.rMaxD K) (tCons (tLc (iList K (tCallS (spInner C) (fun _ => E0) (tCons (tVar 0) (tCons (tVar 1) tNil)))) (gName 2) tYes (tFld K (tVar 2) "depth") [2]) tNil) (tCons (tC (.int 0)) tNil)))
        (start ["kind", "parts", "process"] [.str p.kind, .ref t]) H (.int (1 + maxDef 0 (p.inner.map Pr.depth))) :=
      ev_op ev_c (ev_maxD (el_flds (fun h => fld_depth h) T.cl T.nD (el_cx (ea_cons (ev_var rfl) (ea_cons (ev_var rfl) ea_nil)) (sp_inner ht hl hI)) (hI.short hl) hI.at (fun _ => rfl) (fun _ => rfl))) rv_I0
    rw [Pr.depth_eq] at g
    exact s_ret g k
theorem scSize : FnScope ["kind", "parts", "own", "process"] ["kind", "parts"] (defScope (topS 28)) := ⟨rfl, rfl, rfl, by decide +kernel, rfl, by decide +kernel, by decide +kernel⟩
theorem own_eq {H : Hp} {ps : List V} {p : Pr} (h : PartsAt C H ps p) : p.own = if decide (V.str p.kind = V.str "choice") = true then (if ((ps.length : Nat) : Int) > 1 then ((ps.length : Nat) : Int) else 1) else 1 := by
  cases p with
  | choice os =>
    rw [if_pos (show decide (V.str (Pr.choice os).kind = V.str "choice") = true from kCh)]
    show max 1 (os.len : Int) = _
    rw [OfsAt.len h]
    by_cases q : ((os.len : Nat) : Int) > 1
    · rw [if_pos q]
      omega
    · rw [if_neg q]
      omega
  | new n k r =>
    rw [show decide (V.str (Pr.new n k r).kind = V.str "choice") = false from kNew]
    rfl
  | cond l r y n =>
    rw [show decide (V.str (Pr.cond l r y n).kind = V.str "choice") = false from kIf]
    rfl
  | call n ops =>
    rw [show decide (V.str (Pr.call n ops).kind = V.str "choice") = false from kCall]
    rfl
theorem ok_size {f : Addr} {fd : FuncData} (F : Fun K "size_of" "size_of" (topS 28) f fd) (B : BasT K mg) (T : TerT K mg C CB) (GI : CalX P w K mg base CX0 1 "inner_processes" (spInner C)) : FnOk P w K mg base CX0 2 f fd ["kind", "parts"] (spSize C Pr.size) := by
  refine F.ok scSize (fun vs H Q E h => ?_) (fun cdv A outer s H vs Q E hr h => ?_)
  · obtain ⟨p, t, ps, rfl, _⟩ := h
    rfl
  · obtain ⟨p, t, ps, rfl, ht, hl, hP, k⟩ := h
    obtain ⟨rs, hI⟩ := hP.inn
    refine ⟨_, pss_cons (ps_set (i := 2) scSize.nd rfl (Or.inl rfl) (pe_ifExp (pt_cmpR op_eq (pv 0) pe_str (nomark _)) (pe_callB (call_max2 rfl) (by rfl) T.max (by decide +kernel) (pa_cons pe_int (pa_cons (pe_callB call_len_seq (by rfl) B.len PySem.boot_len (pa_cons (pv 1) pa_nil)) pa_nil))) pe_int))
      (pss_one (ps_ret (pe_op op_add (pv 2) (pe_callB (cr_sum rfl) (by rfl) T.sum (by decide +kernel) (pa_cons
      (pe_lc (own := [("process", 3)]) (g := gName 3) (tt := tYes) (te := tFld K (tVar 3) "size") rfl scSize.nd (pi_list (pe_cx (E := fun _ => E0) GI hr (by decide) (by rfl) at0 (pa_cons (pv 0) (pa_cons (pv 1) pa_nil)))) (blkOk_by (own := [("process", 3)]) (N := ["kind", "parts", "own", "process"]) (sc := defScope (topS 28)) (by decide +kernel))
          (fun _ _ _ _ _ => pg_name (i := 3) scSize.nd rfl (Or.inl rfl)) (fun _ _ _ _ _ => pts_nil) (fun _ _ _ _ _ => pe_fld (pv 3) rfl)) pa_nil))))), ?_⟩
    refine q_asg (v := .int p.own) (ev_if (b := decide (V.str p.kind = V.str "choice")) (et_test (ev_op (ev_var rfl) ev_c (rv_eq rfl))) (fun hb => ?_) (fun hb => ?_)) (fun H1 e1 => ?_)
    · have q := ev_max2 (σ := start ["kind", "parts", "own", "process"] [.str p.kind, .ref t]) (H := H) (ta := tC (.int 1)) (i := 1) (j := ((ps.length : Nat) : Int)) ev_c (ev_lenT (K := K) (ta := tVar 1) (ev_var rfl) (st_of ht))
      rw [own_eq hP, if_pos hb]
      exact q
    · rw [own_eq hP, if_neg (by rw [hb]; decide)]
      exact ev_c
    · have g : Ev (tOp (rI0 fun i j => .int (i + j)) (tVar 2) (tCB (rSum K) (tCons (tLc (iList K (tCallS (spInner C) (fun _ => E0) (tCons (tVar 0) (tCons (tVar 1) tNil)))) (gName 3) tYes (tFld K (tVar 3) "size") [3]) tNil)))
          ((start ["kind", "parts", "own", "process"] [.str p.kind, .ref t]).set 2 (some (.int p.own))) H1 (.int (p.own + (p.inner.map Pr.size).sum)) :=
        ev_op (ev_var rfl) (ev_sum (el_flds (fun h => fld_size h) T.cl T.nS (el_cx (ea_cons (ev_var rfl) (ea_cons (ev_var rfl) ea_nil)) (sp_inner (e1 _ _ ht) hl (hI.ex e1))) (hI.short hl) (hI.at.ex e1) (fun _ => rfl) (fun _ => rfl))) rv_I0
      rw [Pr.size_eq] at g
      exact s_ret g (fun H2 e2 => k H2 (e1.trans e2))
end
end Fs

set_option Elab.async false
set_option linter.all false
set_option maxRecDepth 100000
set_option maxHeartbeats 2000000
namespace Fs
open PySem L2 Evl FsE FsC FsR
def badInit (p : Pr) : Option Str := if p.depth ≤ 20 then (if p.size ≤ 400 then none else some "size") else some "depth"
def spInit (C CB : Addr) : Sp := fun vs H Q E => ∃ (a dx : Addr) (p : Pr) (t : Addr) (ps : List V) (H0 : Hp), vs = [.ref a, .str p.kind, .ref t] ∧ H a = some (.ins C dx []) ∧ H0 a = none ∧ Ex H0 H ∧ H0 t = some (.tup ps) ∧ ps.length ≤ 100 ∧ PartsAt C H0 ps p ∧
  (badInit p = none → ∀ H', Ex H0 H' → H' a = some (.ins C dx (pFlds p.kind t p.depth p.size)) → Q .non H') ∧ (∀ f, badInit p = some f → Bad CB f H0 E)
section
variable {P : Program} {w : World} {K : PySem.W.Frag} {mg : Str → Option Value} {base : Heap} {C CB : Addr}
theorem q_fld {σ : L2.St} {H : Hp} {ta tv : TE} {a C dx : Addr} {fs : List (Str × V)} {f : Str} {v : V} {tz : TS} {D : Ends} (hv : Ev tv σ H v) (ho : Ev ta σ H (.ref a)) (hi : H a = some (.ins C dx fs)) (cl : Cls K C) (n : NoAttr K C f) (hl : fs.length < 1000)
    (k : ∀ H1, Ex H H1 → tz D σ (upd H1 a (.ins C dx (putF f v fs)))) : tSeq (sFld K ta tv f) tz D σ H :=
  hv H (Ex.refl H) _ fun H1 e1 => ho H1 e1 _ fun H2 e2 => ⟨a, C, dx, fs, rfl, (e1.trans e2) _ _ hi, cl, n, hl, k H2 (e1.trans e2)⟩
theorem scInit : FnScope ["self", "kind", "parts"] ["self", "kind", "parts"] (defScope (inClass (topS 30) 0)) := ⟨rfl, rfl, rfl, by decide +kernel, rfl, by decide +kernel, by decide +kernel⟩
theorem putF_len (f : Str) (v : V) : ∀ fs : List (Str × V), (putF f v fs).length ≤ fs.length + 1
  | [] => by
    show 1 ≤ 0 + 1
    decide
  | (g, x) :: fs => by
    have ih := putF_len f v fs
    show (if g = f then (g, v) :: fs else (g, x) :: putF f v fs).length ≤ _
    by_cases h : g = f
    · rw [if_pos h]
      simp
    · rw [if_neg h]
      simp only [List.length_cons]
      omega
theorem ok_init {f : Addr} {fd : FuncData} {k : Nat} (F : Fun K "__init__" "Process.__init__" (inClass (topS 30) 0) f fd) (T : TerT K mg C CB) (GD : CalX P w K mg base CX0 2 "depth_of" (spSize C Pr.depth)) (GS : CalX P w K mg base CX0 2 "size_of" (spSize C Pr.size))
    (GM : CalX P w K mg base (L2.CX P w) k "demand" (spDemand CB)) (hk : 2 ≤ k) : FnOk P w K mg base (L2.CX P w) (k + 1) f fd ["self", "kind", "parts"] (spInit C CB) := by
  refine F.okX scInit (fun vs H Q E h => ?_) (fun cdv A outer s H vs Q E hr h => ?_)
  · obtain ⟨a, dx, p, t, ps, H0, rfl, _⟩ := h
    rfl
  · obtain ⟨a, dx, p, t, ps, H0, rfl, ha, hna, e0, ht, hl, hP, k1, k2⟩ := h
    refine ⟨_, pss_cons (ps_fld (pv 0) (pv 1) rfl) (pss_cons (ps_fld (pv 0) (pv 2) rfl)
      (pss_cons (ps_fld (pv 0) (pe_cx (E := fun _ => E0) GD hr hk (by rfl) at0 (pa_cons (pv 1) (pa_cons (pv 2) pa_nil))) rfl)
      (pss_cons (ps_fld (pv 0) (pe_cx (E := fun _ => E0) GS hr hk (by rfl) at0 (pa_cons (pv 1) (pa_cons (pv 2) pa_nil))) rfl)
      (pss_cons (ps_expr (pe_cx (E := WE (fun cls d _ H => E cls d H)) GM hr (Nat.le_refl _) (by rfl) (fun σ => passAt (takes_of rfl rfl rfl rfl) σ) (pa_cons (pe_cmpR op_le (pe_fld (pv 0) rfl) (C8.pe_gc (by rfl) T.depth) (nomark _)) (pa_cons pe_str pa_nil))))
      (pss_one (ps_expr (pe_cx (E := WE (fun cls d _ H => E cls d H)) GM hr (Nat.le_refl _) (by rfl) (fun σ => passAt (takes_of rfl rfl rfl rfl) σ) (pa_cons (pe_cmpR op_le (pe_fld (pv 0) rfl) (C8.pe_gc (by rfl) T.size) (nomark _)) (pa_cons pe_str pa_nil))))))))), ?_⟩
    refine q_fld (ev_var rfl) (ev_var rfl) ha T.cl T.nK (by show 0 < 1000; decide) (fun H1 e1 => ?_)
    have x1 : Ex H0 (upd H1 a (.ins C dx (putF "kind" (.str p.kind) []))) := Ex.mut (e0.trans e1) hna
    refine q_fld (ev_var rfl) (ev_var rfl) upd_same T.cl T.nP (by have := putF_len "kind" (.str p.kind) []; simp only [List.length_nil] at this; omega) (fun H2 e2 => ?_)
    have x2 : Ex H0 (upd H2 a (.ins C dx (putF "parts" (.ref t) (putF "kind" (.str p.kind) [])))) := Ex.mut (x1.trans e2) hna
    refine q_fld (ev_cx (ea_cons (ev_var rfl) (ea_cons (ev_var rfl) ea_nil)) (sp_size (x2 _ _ ht) hl (hP.ex x2))) (ev_var rfl) upd_same T.cl T.nD (by have h1 := putF_len "kind" (.str p.kind) []; have h2 := putF_len "parts" (.ref t) (putF "kind" (.str p.kind) []); simp only [List.length_nil] at h1; omega) (fun H3 e3 => ?_)
    have x3 : Ex H0 (upd H3 a (.ins C dx (putF "depth" (.int p.depth) (putF "parts" (.ref t) (putF "kind" (.str p.kind) []))))) := Ex.mut (x2.trans e3) hna
    refine q_fld (ev_cx (ea_cons (ev_var rfl) (ea_cons (ev_var rfl) ea_nil)) (sp_size (x3 _ _ ht) hl (hP.ex x3))) (ev_var rfl) upd_same T.cl T.nS (by have h1 := putF_len "kind" (.str p.kind) []; have h2 := putF_len "parts" (.ref t) (putF "kind" (.str p.kind) []); have h3 := putF_len "depth" (.int p.depth) (putF "parts" (.ref t) (putF "kind" (.str p.kind) [])); simp only [List.length_nil] at h1; omega) (fun H4 e4 => ?_)
    have x4 : Ex H0 (upd H4 a (.ins C dx (pFlds p.kind t p.depth p.size))) := Ex.mut (x3.trans e4) hna
    have h4 : (upd H4 a (.ins C dx (pFlds p.kind t p.depth p.size))) a = some (.ins C dx (pFlds p.kind t p.depth p.size)) := upd_same
    refine q_demand (by decide +kernel) (ev_op (ev_fld (ev_var rfl) h4 T.cl T.nD pf_depth) ev_c rv_I0) (fun hb H5 e5 => ?_) (fun hb => ?_)
    · have hd : p.depth ≤ 20 := by simpa using hb
      refine s_demand (by decide +kernel) (ev_op (ev_fld (ev_var rfl) (e5 _ _ h4) T.cl T.nS pf_size) ev_c rv_I0) (fun hb2 H6 e6 => ?_) (fun hb2 => ?_)
      · have hs : p.size ≤ 400 := by simpa using hb2
        exact k1 (by unfold badInit; rw [if_pos hd, if_pos hs]) H6 ((x4.trans e5).trans e6) ((e5.trans e6) _ _ h4)
      · have hs : ¬ p.size ≤ 400 := by simpa using hb2
        exact (k2 "size" (by unfold badInit; rw [if_pos hd, if_neg hs])).ex (x4.trans e5)
    · have hd : ¬ p.depth ≤ 20 := by simpa using hb
      exact (k2 "depth" (by unfold badInit; rw [if_neg hd])).ex x4
/-- what a maker gives: the process, or the field that is refused -/
def Made (C CB : Addr) (o : Option Str) (p : Pr) (H : Hp) (Q : VK) (E : XK) : Prop :=
  (o = none → ∀ a H', H a = none → Ex H H' → PrAt C H' a p → Q (.ref a) H') ∧ (∀ f, o = some f → Bad CB f H E)
theorem Made.ex {o : Option Str} {p : Pr} {H H' : Hp} {Q : VK} {E : XK} (e : Ex H H') (h : Made C CB o p H Q E) : Made C CB o p H' Q E :=
  ⟨fun ho a H2 ha e2 hp => h.1 ho a H2 (fresh_back e ha) (e.trans e2) hp, fun f hf => (h.2 f hf).ex e⟩
/-- a tuple that holds the parts of p -/
def EvP (C : Addr) (tp : TE) (σ : L2.St) (H : Hp) (p : Pr) : Prop := ∀ H1, Ex H H1 → ∀ Q : VK, (∀ t H2 ps, H1 t = none → Ex H1 H2 → H2 t = some (.tup ps) → ps.length ≤ 100 → PartsAt C H2 ps p → Q (.ref t) H2) → tp σ H1 Q
theorem EvP.of {σ : L2.St} {H : Hp} {tp : TE} {p : Pr} {ps : List V} (h : EvU tp σ H ps) (hl : ps.length ≤ 100) (hP : PartsAt C H ps p) : EvP C tp σ H p := fun H1 e Q q => h H1 e Q fun t H2 ht e2 h2 => q t H2 ps ht e2 h2 hl (hP.ex (e.trans e2))
/-- Process(kind, parts) -/
theorem ret_make {σ : L2.St} {H : Hp} {tk tp : TE} {p : Pr} {D : Ends} {E : XK} (hkd : Ev tk σ H (.str p.kind)) (hp : EvP C tp σ H p) (m : Made C CB (badInit p) p H D.rt E) :
    tRet (tMake C (spInit C CB) [] E (tCons tk (tCons tp tNil))) D σ H :=
  hkd H (Ex.refl H) _ fun H1 e1 => hp H1 e1 _ fun t H2 ps ht e2 h2 hl hP => fun x dx hx hdx hne => by
    have x0 : Ex H2 (upd (upd H2 dx (.own x)) x (.ins C dx [])) := by
      intro b o hb
      rw [upd_ne (ne_of_none hb hx), upd_ne (ne_of_none hb hdx)]
      exact hb
    refine ⟨x, dx, p, t, ps, H2, rfl, upd_same, hx, x0, h2, hl, hP, fun hb H' e' h' => ⟨rfl, ?_⟩, fun f hf => ((m.2 f hf).ex (e1.trans e2))⟩
    exact m.1 hb x H' (fresh_back (e1.trans e2) hx) ((e1.trans e2).trans e') (PrAt.mk ⟨dx, h'⟩ (e' _ _ h2) (hP.ex e'))
end
end Fs

set_option Elab.async false
set_option linter.all false
set_option maxRecDepth 100000
set_option maxHeartbeats 4000000
/-! set(xs), xs a list or a tuple of texts: how many there are tells whether they all differ. -/
namespace FsT
open PySem PySem.Spec PyProof.Rows
/-- c of the first i texts differ; all of them just when none stands twice -/
structure Few (xs : List Str) (i c : Nat) : Prop where
  le : c ≤ i
  all : c = i ↔ (xs.take i).Nodup
theorem nodup_snoc {l : List Str} {z : Str} : (l ++ [z]).Nodup ↔ l.Nodup ∧ z ∉ l := by
  rw [List.nodup_append]
  constructor
  · intro h
    exact ⟨h.1, fun hz => h.2.2 z hz z (List.mem_singleton.mpr rfl) rfl⟩
  · intro h
    refine ⟨h.1, by simp, fun a ha b hb e => ?_⟩
    rw [List.mem_singleton.mp hb] at e
    exact h.2 (e ▸ ha)
theorem Few.step {xs : List Str} {i c : Nat} {z : Str} (f : Few xs i c) (hz : xs[i]? = some z) : Few xs (i + 1) (if decide (z ∈ xs.take i) = true then c else c + 1) := by
  have e : xs.take (i + 1) = xs.take i ++ [z] := by
    rw [List.take_add_one, hz]
    rfl
  have h1 := f.le
  have h2 := f.all
  by_cases h : z ∈ xs.take i
  · rw [if_pos (decide_eq_true h)]
    refine ⟨by omega, ⟨fun q => absurd q (by omega), fun q => ?_⟩⟩
    rw [e, nodup_snoc] at q
    exact absurd h q.2
  · rw [if_neg (by rw [decide_eq_false h]; decide)]
    refine ⟨by omega, ?_⟩
    rw [e, nodup_snoc]
    constructor
    · intro q
      exact ⟨h2.mp (by omega), h⟩
    · intro q
      have := h2.mpr q.1
      omega
section
variable {P : Program} {w : World} {A : Around} {R : Result → Shared → Prop} {I S : Addr} {fp wr : List Addr} {G : Array GenState → Array GenState → Prop} {n : Nat} {Pv : Nat → Value → Prop} {St : Nat → Shared → Prop}
/-- one text after the other into the set at S -/
theorem tx_loop (W : WalksS P w A.in1 I fp wr G n Pv St) (hS : S ∉ fp) {xs : List Str} (hn : n ≤ 2000) (hv : ∀ i v, Pv i v → ∃ z t, xs[i]? = some z ∧ v = .str z t) (R0 : ∀ s' c, Moved (S :: wr) G s0 s' → Few xs n c → s'.heap.SetOf (PySem.strKind P w) S (fun k => decide (k ∈ xs.take n)) c → R (.ok (.ret .none)) s') :
    ∀ (m i : Nat) (s : Shared), i + m = n → St i s → Moved (S :: wr) G s0 s → (∃ c, Few xs i c ∧ s.heap.SetOf (PySem.strKind P w) S (fun k => decide (k ∈ xs.take i)) c) → codeAny (model P w) A (.builtin "set.update.loop" ⟨[.ref S, .ref I], []⟩) R s := by
  have out : S ∉ wr := fun z => hS (W.sub _ z)
  have up : ∀ b ∈ wr, b ∈ S :: wr := fun b => List.mem_cons_of_mem _
  have stay : ∀ {u u' : Shared} {q : Str → Bool} {c : Nat}, Moved wr G u u' → u.heap.SetOf (PySem.strKind P w) S q c → u'.heap.SetOf (PySem.strKind P w) S q c := fun mv ⟨o, es, ep, t, ho, r⟩ => ⟨o, es, ep, t, mv.heap S o out ho, r⟩
  intro m
  induction m with
  | zero =>
    intro i s him hst mv0 ⟨c, fw, so⟩
    have hi : i = n := by omega
    subst hi
    refine codeAny_builtin PyProof.Rows.F.entry_set_update_loop ?_
    rw [Around.under_plainId F.plain_set_update_loop]
    show wpAny _ _ (pyNext (.ref I) >>= fun _ => _) _ _ s
    exact wpAny_bind (W.done s _ _ hst fun s' mv => wpAny_pure (R0 s' c (Moved.trans W.gtrans mv0 (mv.mono up)) fw (stay mv so)))
  | succ m ih =>
    intro i s him hst mv0 ⟨c, fw, so⟩
    refine codeAny_builtin PyProof.Rows.F.entry_set_update_loop ?_
    rw [Around.under_plainId F.plain_set_update_loop]
    show wpAny _ _ (pyNext (.ref I) >>= fun _ => _) _ _ s
    refine wpAny_bind (W.item i s _ _ (by omega) hst fun v s1 hp hst1 mv => ?_)
    obtain ⟨z, t, hz, rfl⟩ := hv i v hp
    show wpAny _ _ (holding [Value.str z t] (setAdd S (.str z t)) >>= fun _ => _) _ _ s1
    unfold setAdd
    refine wpAny_bind (wpAny_holding (wpAny_holding (wpAny_bind ((PySem.strKind P w).pyHash (strKind_is P w z t) ?_))))
    have c0 := fw.le
    have so1 := stay mv so
    refine wpAny_setAddHashed_of (s := { s1 with toks := s1.toks + 1 }) (strKind_is P w z t) rfl so1 (by show c + 1 < 4096; omega) fun h' but so2 => ?_
    have so3 : h'.SetOf (PySem.strKind P w) S (fun k => decide (k ∈ xs.take (i + 1))) (if decide (z ∈ xs.take i) = true then c else c + 1) := SetOf_congr so2 (fun k => by
      rw [List.take_add_one, hz]
      simp [List.mem_append]) rfl
    refine wpAny_pure ⟨plainId_quiet F.plain_set_update_loop _, ih (i + 1) _ (by omega) (W.frame (i + 1) s1 h' _ hst1 (Nat.le_succ _) fun b hb o ho => ?_) ?_ ⟨_, fw.step hz, so3⟩⟩
    · exact (but.2 b fun z => hS (z ▸ hb)).trans ho
    · refine Moved.trans W.gtrans mv0 ((mv.mono up).then_heap (Nat.le_succ _) fun b o hb ho => ?_)
      exact (but.2 b fun z => hb (z ▸ List.mem_cons_self ..)).trans ho
end
section
variable {P : Program} {w : World} {A : Around} {E : Value → Shared → Prop} {s : Shared}
/-- what set() reads: a list, a tuple -/
structure Feed (P : Program) (w : World) (T iT : String) (items : Array Value) (nl : Nat) (od : Option Addr) (sl : Array (Option Value)) (l : Addr) : Prop where
  s1 : isSubtype (Value.type T) (Value.type "set") = pure false
  s2 : isSubtype (Value.type T) (Value.type "frozenset") = pure false
  nd : (Value.type T == Value.type "dict") = false
  it : ∀ (A' : Around) (E' : Value → Shared → Prop) (u : Shared) (Q' : Value → Shared → Prop), u.heap.get? l = some { cls := .type T, dict := od, data := .seq items nl, slots := sl } →
    Q' (.ref u.heap.objs.size) { u with heap := u.heap.push { cls := .type iT, data := .fields #[.ref l, .int 0 0] } } → wpAny (model P w) A' (pyIter (.ref l)) Q' E' u
  wk : ∀ (A' : Around) (I : Addr), A'.handled = none → l ≠ I → ∃ St : Nat → Shared → Prop, WalksS P w A' I [I, l] [I] (fun a b => b = a) items.size (fun i v => items[i]? = some v) St ∧
    ∀ u : Shared, u.heap.get? I = some { cls := .type iT, data := .fields #[.ref l, .int 0 0] } → u.heap.get? l = some { cls := .type T, dict := od, data := .seq items nl, slots := sl } → St 0 u
theorem feed_list {items : Array Value} {nl : Nat} {od : Option Addr} {sl : Array (Option Value)} {l : Addr} : Feed P w "list" "list_iterator" items nl od sl l :=
  ⟨PySem.F.sub_list_set, PySem.F.sub_list_frozenset, by decide, fun _ _ _ _ h q => wpAny_pyIter_list ⟨_, h, rfl, nl, rfl⟩ q, fun A' I ha ne => ⟨_, (Walks.list ha I l ne items).toS, fun u h1 h2 => ⟨⟨_, h1, rfl, rfl⟩, ⟨_, h2, rfl, nl, rfl⟩⟩⟩⟩
theorem feed_tup {items : Array Value} {nl : Nat} {od : Option Addr} {sl : Array (Option Value)} {l : Addr} : Feed P w "tuple" "tuple_iterator" items nl od sl l :=
  ⟨PySem.F.sub_tuple_set, PySem.F.sub_tuple_frozenset, by decide, fun _ _ _ _ h q => wpAny_pyIter_tuple ⟨_, h, rfl, nl, rfl⟩ q, fun A' I ha ne => ⟨_, (Walks.tuple ha I l ne items).toS, fun u h1 h2 => ⟨⟨_, h1, rfl, rfl⟩, ⟨_, h2, rfl, nl, rfl⟩⟩⟩⟩
/-- set(l) -/
theorem tx_call {T iT : String} {items : Array Value} {nl : Nat} {od : Option Addr} {sl : Array (Option Value)} {l : Addr} {xs : List Str} {Q : Value → Shared → Prop} (D : Feed P w T iT items nl od sl l) (ha : A.handled = none)
    (ho : s.heap.get? l = some { cls := .type T, dict := od, data := .seq items nl, slots := sl }) (hx : StrsAre items.toList xs) (hl : xs.length ≤ 2000)
    (hq : ∀ h' tk c, Few xs xs.length c → h'.SetOf (PySem.strKind P w) s.heap.objs.size (fun k => decide (k ∈ xs)) c → (∀ b o, s.heap.get? b = some o → h'.get? b = some o) → Q (.ref s.heap.objs.size) { s with heap := h', toks := tk }) :
    wpAny (model P w) A (call (.type "set") [.ref l]) Q E s := by
  have cs := PySem.F.called_set
  obtain ⟨cc, rest, mro0⟩ := cs.mro
  have made0 := cs.made
  have sub0 := cs.sub
  refine wpAny_call (codeAny_of_tree ?_)
  show wpAny _ _ (callAny (.type "set") { pos := [.ref l] }) _ _ _
  refine wpAny_pure ⟨Code.quiet_builtin _ (by decide +kernel), codeAny_builtin PySem.F.entry_type_call ?_⟩
  rw [Around.under_plain (weight_type_call_type "set" [Value.ref l] []) rfl]
  have nt0 := cs.notType
  have cr0 := cs.canCreate
  have tc0 := PySem.F.typeCall_set_1 (Value.ref l)
  repeat (any_goals (first | assumption | wp_step))
  refine codeAny_mono (code_set_new_1 (Value.ref l) (E := E) (Q₁ := fun v u => ∃ b : Bool, v = .ref s.heap.objs.size ∧ u = { s with heap := s.heap.push { cls := .type "set", data := .set #[] 0 (.fresh 0 0 b) } }) (fun b => ⟨b, rfl, rfl⟩)) (fun r u hr => ?_)
  match r, hr with
  | .error _, hr => exact hr
  | .ok .next, hr => exact hr.elim
  | .ok .brk, hr => exact hr.elim
  | .ok .cont, hr => exact hr.elim
  | .ok (.ret v), hr =>
    obtain ⟨b, rfl, rfl⟩ := hr
    have at0 : (s.heap.push { cls := .type "set", data := .set #[] 0 (.fresh 0 0 b) }).get? s.heap.objs.size = some { cls := .type "set", data := .set #[] 0 (.fresh 0 0 b) } := Heap.get?_push_size _ rfl
    have ty0 : Shared.TypeIs { s with heap := s.heap.push { cls := .type "set", data := .set #[] 0 (.fresh 0 0 b) } } (.ref s.heap.objs.size) "set" := ⟨_, at0, rfl⟩
    have look0 := cs.init.lookup
    have bind0 := cs.init.bind (.ref s.heap.objs.size)
    repeat (any_goals (first | assumption | wp_step))
    refine codeAny_mono (codeAny_call_builtin (R := wants (fun v u => v = .none ∧ ∃ h' tk c, u = { s with heap := h', toks := tk } ∧ Few xs xs.length c ∧ h'.SetOf (PySem.strKind P w) s.heap.objs.size (fun k => decide (k ∈ xs)) c ∧ ∀ b o, s.heap.get? b = some o → h'.get? b = some o) E)
      cs.init.plain PySem.F.entry_set_init (check_set_init_1 ty0 ?_)) (fun r2 u2 hr2 => ?_)
    · have ho1 : (s.heap.push { cls := .type "set", data := .set #[] 0 (.fresh 0 0 b) }).get? l = some { cls := .type T, dict := od, data := .seq items nl, slots := sl } := Heap.get?_push_of_some _ ho
      have d1 := D.s1
      have d2 := D.s2
      have d3 := D.nd
      unfold Builtin.«set.__init__» noKeywords Builtin.Frozenset.updateFrom
      generalize hI : pyIter = IT
      wp_walk
      subst hI
      have nx : items.size = xs.length := by
        have e := StrsAre.len_eq hx
        rw [Array.length_toList] at e
        exact e
      have ls : l < s.heap.objs.size := Heap.lt_size ho
      have sz1 : (s.heap.push { cls := .type "set", data := .set #[] 0 (.fresh 0 0 b) }).objs.size = s.heap.objs.size + 1 := Heap.size_push ..
      have n1 : l ≠ s.heap.objs.size + 1 := Nat.ne_of_lt (Nat.lt_succ_of_lt ls)
      have n2 : s.heap.objs.size ≠ s.heap.objs.size + 1 := Nat.ne_of_lt (Nat.lt_succ_self _)
      have n3 : s.heap.objs.size ≠ l := (Nat.ne_of_lt ls).symm
      refine D.it _ _ _ _ ho1 (wpAny_bind (wpAny_runValue ?_))
      have at1 : ((s.heap.push { cls := .type "set", data := .set #[] 0 (.fresh 0 0 b) }).push { cls := .type iT, data := .fields #[.ref l, .int 0 0] }).get? s.heap.objs.size = some { cls := .type "set", data := .set #[] 0 (.fresh 0 0 b) } := Heap.get?_push_of_some _ at0
      obtain ⟨St, wk, st0⟩ := D.wk A.in1.in1.in1 (s.heap.push { cls := .type "set", data := .set #[] 0 (.fresh 0 0 b) }).objs.size (by simp [ha]) (by rw [sz1]; exact n1)
      refine tx_loop (s0 := { s with heap := (s.heap.push { cls := .type "set", data := .set #[] 0 (.fresh 0 0 b) }).push { cls := .type iT, data := .fields #[.ref l, .int 0 0] } }) wk (by
          simp only [List.mem_cons, List.not_mem_nil, or_false, not_or]
          exact ⟨by rw [sz1]; exact n2, n3⟩) (xs := xs) (by omega) (fun i v hv => ?_) (fun u c mv fw so => ?_) items.size 0 _ (Nat.zero_add _) (st0 _ (Heap.get?_push_size _ rfl) (Heap.get?_push_of_some _ ho1)) ⟨fun _ _ _ e => e, rfl, rfl, rfl, Nat.le_refl _⟩
        ⟨0, ⟨Nat.le_refl _, by simp⟩, SetOf_congr ((setObjOf_fresh (knd := PySem.strKind P w) b).setOf at1 (by show 0 < 4096; decide)) (fun k => by simp) rfl⟩
      · obtain ⟨t, e⟩ := SS.strs_at hx i v (by rw [Array.getElem?_toList]; exact hv)
        have hi : i < xs.length := by
          rw [← nx]
          exact (Array.getElem?_eq_some_iff.mp hv).1
        exact ⟨xs[i], t, List.getElem?_eq_getElem hi, by rw [e, List.getD_eq_getElem?_getD, List.getElem?_eq_getElem hi]; rfl⟩
      · obtain ⟨h2, g2, d2, t2, o2⟩ := u
        obtain rfl : g2 = s.gens := mv.gens
        obtain rfl : d2 = s.drawn := mv.drawn
        obtain rfl : o2 = s.os := mv.os
        rw [nx] at fw so
        rw [List.take_length] at so
        refine wpAny_pure ?_
        show wpAny _ _ (ret Value.none) _ _ _
        refine wpAny_pure ⟨rfl, h2, t2, c, rfl, fw, so, fun d o e => ?_⟩
        have dl : d < s.heap.objs.size := Heap.lt_size e
        exact mv.heap d o (by
          simp only [List.mem_cons, List.not_mem_nil, or_false, not_or]
          exact ⟨Nat.ne_of_lt dl, by rw [sz1]; exact Nat.ne_of_lt (Nat.lt_succ_of_lt dl)⟩) (Heap.get?_push_of_some _ (Heap.get?_push_of_some _ e))
    · match r2, hr2 with
      | .error _, hr2 => exact hr2
      | .ok .next, hr2 => exact hr2.elim
      | .ok .brk, hr2 => exact hr2.elim
      | .ok .cont, hr2 => exact hr2.elim
      | .ok (.ret v), hr2 =>
        obtain ⟨rfl, h', tk, c, rfl, fw, so, kp⟩ := hr2
        repeat (any_goals (first | assumption | wp_step))
        exact hq h' tk c fw so kp
end
end FsT

set_option Elab.async false
set_option linter.all false
set_option maxRecDepth 100000
set_option maxHeartbeats 2000000
namespace FsR
open PySem PySem.Spec PyProof.Rows L2 FsT
/-- len(set(xs)), xs a list or a tuple of texts -/
def tLenTx (K : PySem.W.Frag) (ta : TE) : TE := fun σ H Q => ta σ H fun x H1 => ∃ (l : Addr) (xs : List Str), x = .ref l ∧ (SqL K H1 l (xs.map V.str) ∨ SqT K H1 l (xs.map V.str)) ∧ xs.length ≤ 2000 ∧ ∀ c, Few xs xs.length c → Q (.int (c : Nat)) H1
theorem pe_lenTx {X : Cx} {a : Expr} {ta : TE} {p p2 q pos : Pos} (hc : X.calm = true) (hg : Gl X "len") (hm : X.mg "len" = none) (hg2 : Gl X "set") (hm2 : X.mg "set" = none) (ha : PE X a ta)
    (na : starEach [a] X.env = (false, eval a X.env) :: starEach [] X.env := by rfl) : PE X (.Call (.Name "len" p) [.Call (.Name "set" p2) [a] [] q] [] pos) (tLenTx X.K ta) := by
  refine ⟨fun pins s σ H Q I h => Call_ (ld_blt I hg hm PySem.boot_len (callWith_builtin1 (args_cons (Call_ (ld_blt I hg2 hm2 boot_set (callWith_type1 (args_cons (thn (ha.run pins s σ H _ I h) fun v u ⟨x, H1, J, rx, l, xs, ex, hq, hl, k⟩ => args_nil ?_) na) na rfl))) rfl) rfl rfl))⟩
  subst ex
  obtain rfl : v = Value.ref l := rx
  have fin : ∀ (h' : Heap) (tk c : Nat), Few xs xs.length c → h'.SetOf (PySem.strKind X.prog X.w) u.heap.objs.size (fun k => decide (k ∈ xs)) c → (∀ b o, u.heap.get? b = some o → h'.get? b = some o) →
      wpAny (model X.prog X.w) X.A (spliced (backTo pos (starEach [] X.env))) (fun vs u2 => wpAny (model X.prog X.w) X.A (call (.builtin "len") (Value.ref u.heap.objs.size :: vs)) (EP X pins σ Q) X.xe u2) X.xe { u with heap := h', toks := tk } := fun h' tk c fw so kp => by
    refine args_nil ?_
    obtain ⟨o, es, ep, t, ho, hex, hd, _, _, hsm, hf, hn⟩ := so
    have J2 : Inv X pins σ H1 { u with heap := h', toks := tk } := J.kept kp
    have c0 := fw.le
    refine call_len_set ho hex hd hf (by rw [hn]; omega) ⟨.int (c : Nat), H1, J2.tok _, ⟨_, by rw [hn]⟩, k c fw⟩
  rcases hq with hq | hq
  · obtain ⟨its, r, pl, hz⟩ := J.list hq
    obtain ⟨⟨oc, od, dt, sl⟩, ho, e1, n, e2⟩ := pl.isList
    dsimp only at e1 e2
    subst e1 e2
    exact tx_call feed_list (J.ok.hd hc) ho (by simpa using strsAre_of r) hl fin
  · obtain ⟨its, r, ⟨⟨oc, od, dt, sl⟩, ho, e1, n, e2⟩, hz⟩ := J.tuple hq
    dsimp only at e1 e2
    subst e1 e2
    exact tx_call feed_tup (J.ok.hd hc) ho (by simpa using strsAre_of r) hl fin
end FsR

set_option Elab.async false
set_option linter.all false
set_option maxRecDepth 100000
set_option maxHeartbeats 2000000
namespace Fs
open PySem L2 Evl FsE FsC FsR FsT
def namesS (ns : List Str) : Bool := (ns.map nameS).all id && decide ns.Nodup
/-- names, in a list or a tuple -/
def NmsAt (H : Hp) (u : Addr) (ns : List Str) : Prop := H u = some (.lst (ns.map V.str)) ∨ H u = some (.tup (ns.map V.str))
theorem NmsAt.ex {H H' : Hp} {u : Addr} {ns : List Str} (e : Ex H H') (h : NmsAt H u ns) : NmsAt H' u ns := h.imp (e _ _) (e _ _)
theorem NmsAt.sq {K : PySem.W.Frag} {H : Hp} {u : Addr} {ns : List Str} (h : NmsAt H u ns) : SqL K H u (ns.map V.str) ∨ SqT K H u (ns.map V.str) := h.imp sq_of st_of
def spNames : Sp := fun vs H Q _ => ∃ (u : Addr) (ns : List Str), vs = [.ref u] ∧ NmsAt H u ns ∧ ns.length ≤ 90 ∧ (∀ z ∈ ns, z.length ≤ 40000) ∧ RetV (.bl (namesS ns)) H Q
section
variable {P : Program} {w : World} {K : PySem.W.Frag} {mg : Str → Option Value} {base : Heap} {C CB : Addr}
/-- len(set(xs)) == n, n the length of xs -/
theorem ev_differ {σ : L2.St} {H : Hp} {ta tb : TE} {u : Addr} {ns : List Str} (h : Ev ta σ H (.ref u)) (hu : NmsAt H u ns) (hl : ns.length ≤ 90) (hb : Ev tb σ H (.int ((ns.length : Nat) : Int))) : Ev (tOp rEq (tLenTx K ta) tb) σ H (.bl (decide ns.Nodup)) := fun H1 e Q q =>
  h H1 e _ fun H2 e2 => ⟨u, ns, rfl, (hu.ex (e.trans e2)).sq, by omega, fun c fw => hb H2 (e.trans e2) _ fun H3 e3 => rv_eq (x := .int (c : Nat)) (y := .int ((ns.length : Nat) : Int)) rfl H3 (Ex.refl H3) _ fun H4 e4 => by
    have a := fw.all
    rw [List.take_length] at a
    have b : decide (V.int ((c : Nat) : Int) = V.int ((ns.length : Nat) : Int)) = decide ns.Nodup := by
      by_cases hn : ns.Nodup
      · rw [decide_eq_true hn, a.mpr hn]
        exact decide_eq_true rfl
      · rw [decide_eq_false hn]
        refine decide_eq_false fun z => hn (a.mp ?_)
        injection z with z
        omega
    rw [b]
    exact q H4 ((e2.trans e3).trans e4)⟩
theorem nms_at {ns : List Str} {i : Nat} {x y : V} (hz : ∀ z ∈ ns, z.length ≤ 40000) (hx : (ns.map V.str)[i]? = some x) (hy : ((ns.map nameS).map V.bl)[i]? = some y) : OpV x ∧ y = .bl (nameV x) := by
  rw [List.map_map, List.getElem?_map] at hy
  rw [List.getElem?_map] at hx
  cases hq : ns[i]? with
  | none =>
    rw [hq] at hx
    cases hx
  | some z =>
    rw [hq] at hx hy
    have ex : V.str z = x := Option.some.inj hx
    have ey : V.bl (nameS z) = y := Option.some.inj hy
    subst ex
    exact ⟨hz z (List.mem_of_getElem? hq), ey.symm⟩
theorem scNames : FnScope ["texts", "text"] ["texts"] (defScope (topS 10)) := ⟨rfl, rfl, rfl, by decide +kernel, rfl, by decide +kernel, by decide +kernel⟩
theorem ok_are_names {f : Addr} {fd : FuncData} (F : Fun K "are_names" "are_names" (topS 10) f fd) (B : BasT K mg) (hset : mg "set" = none) (GN : CalX P w K mg base CX0 1 "is_name" (spPred nameV)) : FnOk P w K mg base CX0 2 f fd ["texts"] spNames := by
  refine F.ok scNames (fun vs H Q E h => ?_) (fun cdv A outer s H vs Q E hr h => ?_)
  · obtain ⟨u, ns, rfl, _⟩ := h
    rfl
  · obtain ⟨u, ns, rfl, hu, hl, hz, q⟩ := h
    have hlen : (ns.map V.str).length ≤ 40000 := by rw [List.length_map]; omega
    have hlen2 : ((ns.map nameS).map V.bl).length = (ns.map V.str).length := by simp
    have hbs : (((ns.map V.str).length : Nat) : Int) = ((ns.length : Nat) : Int) := by rw [List.length_map]
    have each : ∀ {σ : L2.St} {H2 : Hp} {i : Nat} {x y : V}, (ns.map V.str)[i]? = some x → ((ns.map nameS).map V.bl)[i]? = some y → σ[1]? = some (some x) → Ev (tCallS (spPred nameV) (fun _ => E0) (tCons (tVar 1) tNil)) σ H2 y := fun hx hy hv => by
      obtain ⟨a1, a2⟩ := nms_at hz hx hy
      rw [a2]
      exact ev_cx (ea_cons (ev_var hv) ea_nil) (sp_pred a1)
    rcases id hu with hu1 | hu1
    · refine ⟨_, pss_one (ps_ret (pe_and (pe_callB (cr_all rfl) (by rfl) B.all (by decide +kernel) (pa_cons
          (pe_lc (own := [("text", 1)]) (g := gName 1) (tt := tYes) (te := tCallS (spPred nameV) (fun _ => E0) (tCons (tVar 1) tNil)) rfl scNames.nd (pi_list (pv 0)) (blkOk_by (own := [("text", 1)]) (N := ["texts", "text"]) (sc := defScope (topS 10)) (by decide +kernel))
            (fun _ _ _ _ _ => pg_name (i := 1) scNames.nd rfl (Or.inl rfl)) (fun _ _ _ _ _ => pts_nil) (fun _ _ _ _ _ => pe_cx (E := fun _ => E0) GN hr (by decide) (by rfl) at0 (pa_cons (pv 1) pa_nil))) pa_nil))
          (pe_one (pe_cmpR op_eq (pe_lenTx rfl (by rfl) B.len (by rfl) hset (pv 0)) (pe_callB call_len_seq (by rfl) B.len PySem.boot_len (pa_cons (pv 0) pa_nil)) (nomark _))))), ?_⟩
      refine s_ret (v := .bl (namesS ns)) (ev_andV (ev_all (bs := ns.map nameS) (el_lcLy (ev_var rfl) (sq_of hu1) hlen (fun _ => rfl) hlen2 (fun i x y H2 e2 hx hy => each hx hy rfl)))
        (fun _ => ev_differ (ev_var rfl) hu hl (ev_is (ev_cb (ea_cons (ev_var rfl) ea_nil) (fun H2 e2 Q' q' => ⟨u, _, rfl, .inl (sq_of (e2 _ _ hu1)), q' H2 (Ex.refl H2)⟩)) (by rw [hbs])))) q
    · refine ⟨_, pss_one (ps_ret (pe_and (pe_callB (cr_all rfl) (by rfl) B.all (by decide +kernel) (pa_cons
          (pe_lc (own := [("text", 1)]) (g := gName 1) (tt := tYes) (te := tCallS (spPred nameV) (fun _ => E0) (tCons (tVar 1) tNil)) rfl scNames.nd (pi_tup (pv 0)) (blkOk_by (own := [("text", 1)]) (N := ["texts", "text"]) (sc := defScope (topS 10)) (by decide +kernel))
            (fun _ _ _ _ _ => pg_name (i := 1) scNames.nd rfl (Or.inl rfl)) (fun _ _ _ _ _ => pts_nil) (fun _ _ _ _ _ => pe_cx (E := fun _ => E0) GN hr (by decide) (by rfl) at0 (pa_cons (pv 1) pa_nil))) pa_nil))
          (pe_one (pe_cmpR op_eq (pe_lenTx rfl (by rfl) B.len (by rfl) hset (pv 0)) (pe_callB call_len_seq (by rfl) B.len PySem.boot_len (pa_cons (pv 0) pa_nil)) (nomark _))))), ?_⟩
      refine s_ret (v := .bl (namesS ns)) (ev_andV (ev_all (bs := ns.map nameS) (el_lcTy (ev_var rfl) (st_of hu1) hlen (fun _ => rfl) hlen2 (fun i x y H2 e2 hx hy => each hx hy rfl)))
        (fun _ => ev_differ (ev_var rfl) hu hl (ev_is (ev_cb (ea_cons (ev_var rfl) ea_nil) (fun H2 e2 Q' q' => ⟨u, _, rfl, .inr (st_of (e2 _ _ hu1)), q' H2 (Ex.refl H2)⟩)) (by rw [hbs])))) q
end
end Fs

set_option Elab.async false
set_option linter.all false
set_option maxRecDepth 100000
set_option maxHeartbeats 2000000
namespace Fs
open PySem L2 Evl FsE FsC FsR FsT
def Opd.ok : Opd → Prop
  | .int _ => True
  | .nm z => z.length ≤ 40000
theorem Opd.opv {o : Opd} (h : o.ok) : OpV o.v := by
  cases o with
  | int i => exact True.intro
  | nm z => exact h
/-! what is refused -/
def badNew (z : Str) (k : Int) (r : Pr) : Option Str := if nameS z = true then (if seatsV (.int k) = true then badInit (.new z k r) else some "seats") else some "name"
def badWhen (l r : Opd) (y n : Pr) : Option Str := if operandV l.v = true then (if operandV r.v = true then badInit (.cond l r y n) else some "right") else some "left"
def opsOk (ops : List Opd) : Bool := decide (((ops.length : Nat) : Int) ≤ 4) && (ops.map fun o => operandV o.v).all id
def badCall (z : Str) (ops : List Opd) : Option Str := if nameS z = true then (if opsOk ops = true then badInit (.call z ops) else some "operands") else some "name"
/-! the promises -/
def spStop (C CB : Addr) : Sp := fun vs H Q E => vs = [] ∧ Made C CB none (.choice .nil) H Q E
def spNew (C CB : Addr) : Sp := fun vs H Q E => ∃ (z : Str) (k : Int) (b : Addr) (r : Pr), vs = [.str z, .int k, .ref b] ∧ z.length ≤ 40000 ∧ PrAt C H b r ∧ Made C CB (badNew z k r) (.new z k r) H Q E
def spWhen (C CB : Addr) : Sp := fun vs H Q E => ∃ (l r : Opd) (b c : Addr) (y n : Pr), vs = [l.v, r.v, .ref b, .ref c] ∧ l.ok ∧ r.ok ∧ PrAt C H b y ∧ PrAt C H c n ∧ Made C CB (badWhen l r y n) (.cond l r y n) H Q E
/-- a list or a tuple of the operands -/
def OpsAt (K : PySem.W.Frag) (H : Hp) (u : Addr) (ops : List Opd) : Prop := H u = some (.lst (ops.map Opd.v)) ∨ H u = some (.tup (ops.map Opd.v))
def spCall (K : PySem.W.Frag) (C CB : Addr) : Sp := fun vs H Q E => ∃ (z : Str) (u : Addr) (ops : List Opd), vs = [.str z, .ref u] ∧ z.length ≤ 40000 ∧ OpsAt K H u ops ∧ ops.length ≤ 90 ∧ (∀ o ∈ ops, o.ok) ∧ Made C CB (badCall z ops) (.call z ops) H Q E
/-- what the makers ask -/
structure MakT (P : Program) (w : World) (K : PySem.W.Frag) (mg : Str → Option Value) (base : Heap) (C CB : Addr) (k : Nat) : Prop where
  make : MakX P w K mg base (L2.CX P w) k "Process" C (spInit C CB)
  dem : CalX P w K mg base (L2.CX P w) k "demand" (spDemand CB)
  name : CalX P w K mg base CX0 1 "is_name" (spPred nameV)
  seats : CalX P w K mg base CX0 2 "is_seats" (spPred seatsV)
  operand : CalX P w K mg base CX0 3 "is_operand" (spPred operandV)
  int : CalX P w K mg base CX0 1 "is_int" (spPred intV)
  names : CalX P w K mg base CX0 2 "are_names" spNames
  mops : GC mg "MOST_OPERANDS" (.int 4)
  tuple : mg "tuple" = none
  len : mg "len" = none
  all : mg "all" = none
  hk : 3 ≤ k
section
variable {P : Program} {w : World} {K : PySem.W.Frag} {mg : Str → Option Value} {base : Heap} {C CB : Addr} {k : Nat}
theorem scStop : FnScope [] [] (defScope (inClass (topS 30) 1)) := ⟨rfl, rfl, rfl, by decide +kernel, rfl, by decide +kernel, by decide +kernel⟩
theorem ok_stop {f : Addr} {fd : FuncData} (F : Fun K "stop" "Process.stop" (inClass (topS 30) 1) f fd) (M : MakT P w K mg base C CB k) : FnOk P w K mg base (L2.CX P w) (k + 1 + 1) f fd [] (spStop C CB) := by
  refine F.okX scStop (fun vs H Q E h => ?_) (fun cdv A outer s H vs Q E hr h => ?_)
  · obtain ⟨rfl, _⟩ := h
    rfl
  · obtain ⟨rfl, m⟩ := h
    refine ⟨_, pss_one (ps_ret (pe_mx M.make hr (Nat.le_refl _) (by rfl) (passes_call (W := fun cls d _ H => E cls d H) (takes_of rfl rfl rfl rfl) (fun _ _ _ _ h => h)) (pa_cons pe_str (pa_cons (pe_tup pa_nil) pa_nil)))), ?_⟩
    exact ret_make (p := .choice .nil) ev_c (EvP.of (ps := []) (eu_tup ea_nil (by decide)) (by decide) rfl) m
theorem scNew : FnScope ["name", "seats", "rest"] ["name", "seats", "rest"] (defScope (inClass (topS 30) 3)) := ⟨rfl, rfl, rfl, by decide +kernel, rfl, by decide +kernel, by decide +kernel⟩
theorem Made.bad {o : Option Str} {f : Str} {p : Pr} {H : Hp} {Q : VK} {E : XK} (m : Made C CB o p H Q E) (h : o = some f) : Bad CB f H E := m.2 f h
theorem ok_new {f : Addr} {fd : FuncData} (F : Fun K "new" "Process.new" (inClass (topS 30) 3) f fd) (M : MakT P w K mg base C CB k) : FnOk P w K mg base (L2.CX P w) (k + 1 + 1) f fd ["name", "seats", "rest"] (spNew C CB) := by
  refine F.okX scNew (fun vs H Q E h => ?_) (fun cdv A outer s H vs Q E hr h => ?_)
  · obtain ⟨z, kk, b, r, rfl, _⟩ := h
    rfl
  · obtain ⟨z, kk, b, r, rfl, hz, hb, m⟩ := h
    have h3 := M.hk
    refine ⟨_, pss_cons (ps_expr (pe_cx (E := WE (fun cls d _ H => E cls d H)) M.dem hr (Nat.le_succ _) (by rfl) (fun σ => passAt (takes_of rfl rfl rfl rfl) σ) (pa_cons (pe_cx (E := fun _ => E0) M.name hr (by omega) (by rfl) at0 (pa_cons (pv 0) pa_nil)) (pa_cons pe_str pa_nil))))
      (pss_cons (ps_expr (pe_cx (E := WE (fun cls d _ H => E cls d H)) M.dem hr (Nat.le_succ _) (by rfl) (fun σ => passAt (takes_of rfl rfl rfl rfl) σ) (pa_cons (pe_cx (E := fun _ => E0) M.seats hr (by omega) (by rfl) at0 (pa_cons (pv 1) pa_nil)) (pa_cons pe_str pa_nil))))
      (pss_one (ps_ret (pe_mx M.make hr (Nat.le_refl _) (by rfl) (passes_call (W := fun cls d _ H => E cls d H) (takes_of rfl rfl rfl rfl) (fun _ _ _ _ h => h)) (pa_cons pe_str (pa_cons (pe_tup (pa_cons (pv 0) (pa_cons (pv 1) (pa_cons (pv 2) pa_nil)))) pa_nil)))))), ?_⟩
    refine q_demand (by decide +kernel) (ev_cx (ea_cons (ev_var rfl) ea_nil) (sp_pred (f := nameV) (v := .str z) hz)) (fun h1 H1 e1 => ?_) (fun h1 => m.bad (by unfold badNew; rw [if_neg (by rw [show nameS z = false from h1]; decide)]))
    refine q_demand (by decide +kernel) (ev_cx (ea_cons (ev_var rfl) ea_nil) (sp_pred (f := seatsV) (v := .int kk) True.intro)) (fun h2 H2 e2 => ?_) (fun h2 => (m.ex e1).bad (by unfold badNew; rw [if_pos (show nameS z = true from h1), if_neg (by rw [h2]; decide)]))
    have e : badNew z kk r = badInit (.new z kk r) := by unfold badNew; rw [if_pos (show nameS z = true from h1), if_pos h2]
    rw [e] at m
    exact ret_make (p := .new z kk r) ev_c (EvP.of (eu_tup (ea_cons (ev_var rfl) (ea_cons (ev_var rfl) (ea_cons (ev_var rfl) ea_nil))) (by show 3 ≤ 100000; decide)) (by show 3 ≤ 100; decide) ⟨b, rfl, hb.ex (e1.trans e2)⟩) (m.ex (e1.trans e2))
theorem scWhen : FnScope ["left", "right", "yes", "no"] ["left", "right", "yes", "no"] (defScope (inClass (topS 30) 4)) := ⟨rfl, rfl, rfl, by decide +kernel, rfl, by decide +kernel, by decide +kernel⟩
theorem ok_when {f : Addr} {fd : FuncData} (F : Fun K "when" "Process.when" (inClass (topS 30) 4) f fd) (M : MakT P w K mg base C CB k) : FnOk P w K mg base (L2.CX P w) (k + 1 + 1) f fd ["left", "right", "yes", "no"] (spWhen C CB) := by
  refine F.okX scWhen (fun vs H Q E h => ?_) (fun cdv A outer s H vs Q E hr h => ?_)
  · obtain ⟨l, r, b, c, y, n, rfl, _⟩ := h
    rfl
  · obtain ⟨l, r, b, c, y, n, rfl, hl, hrr, hb, hc, m⟩ := h
    have h3 := M.hk
    refine ⟨_, pss_cons (ps_expr (pe_cx (E := WE (fun cls d _ H => E cls d H)) M.dem hr (Nat.le_succ _) (by rfl) (fun σ => passAt (takes_of rfl rfl rfl rfl) σ) (pa_cons (pe_cx (E := fun _ => E0) M.operand hr (by omega) (by rfl) at0 (pa_cons (pv 0) pa_nil)) (pa_cons pe_str pa_nil))))
      (pss_cons (ps_expr (pe_cx (E := WE (fun cls d _ H => E cls d H)) M.dem hr (Nat.le_succ _) (by rfl) (fun σ => passAt (takes_of rfl rfl rfl rfl) σ) (pa_cons (pe_cx (E := fun _ => E0) M.operand hr (by omega) (by rfl) at0 (pa_cons (pv 1) pa_nil)) (pa_cons pe_str pa_nil))))
      (pss_one (ps_ret (pe_mx M.make hr (Nat.le_refl _) (by rfl) (passes_call (W := fun cls d _ H => E cls d H) (takes_of rfl rfl rfl rfl) (fun _ _ _ _ h => h)) (pa_cons pe_str (pa_cons (pe_tup (pa_cons (pv 0) (pa_cons (pv 1) (pa_cons (pv 2) (pa_cons (pv 3) pa_nil))))) pa_nil)))))), ?_⟩
    refine q_demand (by decide +kernel) (ev_cx (ea_cons (ev_var rfl) ea_nil) (sp_pred (f := operandV) (Opd.opv hl))) (fun h1 H1 e1 => ?_) (fun h1 => m.bad (by unfold badWhen; rw [if_neg (by rw [h1]; decide)]))
    refine q_demand (by decide +kernel) (ev_cx (ea_cons (ev_var rfl) ea_nil) (sp_pred (f := operandV) (Opd.opv hrr))) (fun h2 H2 e2 => ?_) (fun h2 => (m.ex e1).bad (by unfold badWhen; rw [if_pos h1, if_neg (by rw [h2]; decide)]))
    have e : badWhen l r y n = badInit (.cond l r y n) := by unfold badWhen; rw [if_pos h1, if_pos h2]
    rw [e] at m
    exact ret_make (p := .cond l r y n) ev_c (EvP.of (eu_tup (ea_cons (ev_var rfl) (ea_cons (ev_var rfl) (ea_cons (ev_var rfl) (ea_cons (ev_var rfl) ea_nil)))) (by show 4 ≤ 100000; decide)) (by show 4 ≤ 100; decide) ⟨b, c, rfl, hb.ex (e1.trans e2), hc.ex (e1.trans e2)⟩) (m.ex (e1.trans e2))
theorem scCall : FnScope ["name", "operands", "allowed", "part"] ["name", "operands"] (defScope (inClass (topS 30) 5)) := ⟨rfl, rfl, rfl, by decide +kernel, rfl, by decide +kernel, by decide +kernel⟩
theorem evp_call {σ : L2.St} {H : Hp} {z : Str} {u : Addr} {ops : List Opd} (h0 : σ[0]? = some (some (.str z))) (h1 : σ[1]? = some (some (.ref u))) (hu : OpsAt K H u ops) :
    EvP C (tTup (tCons (tVar 0) (tCons (tCB (fun xs H Q => ∃ p ys, xs = [V.ref p] ∧ ((SqL K H p ys ∧ ∀ l, H l = none → Q (.ref l) (upd H l (.tup ys))) ∨ SqT K H p ys ∧ Q (.ref p) H)) (tCons (tVar 1) tNil)) tNil))) σ H (.call z ops) := fun H1 e Q q => by
  rcases hu with hu | hu
  · refine ⟨_, h0, _, h1, u, ops.map Opd.v, rfl, .inl ⟨sq_of (e _ _ hu), fun l hl => ⟨(by show 2 ≤ sizeLine; decide), fun p hp => ?_⟩⟩⟩
    have hpl : l ≠ p := fun z => by rw [← z, upd_same] at hp; cases hp
    refine q p _ [.str z, .ref l] (fresh_back (Ex.new hl) hp) ((Ex.new hl).trans (Ex.new hp)) upd_same (by show 2 ≤ 100; decide) ⟨l, rfl, ?_⟩
    rw [upd_ne hpl]
    exact upd_same
  · refine ⟨_, h0, _, h1, u, ops.map Opd.v, rfl, .inr ⟨st_of (e _ _ hu), (by show 2 ≤ sizeLine; decide), fun p hp => ?_⟩⟩
    exact q p _ [.str z, .ref u] hp (Ex.new hp) upd_same (by show 2 ≤ 100; decide) ⟨u, rfl, Ex.new hp _ _ (e _ _ hu)⟩
theorem OpsAt.ex {H H' : Hp} {u : Addr} {ops : List Opd} (e : Ex H H') (h : OpsAt K H u ops) : OpsAt K H' u ops := h.imp (e _ _) (e _ _)
theorem ops_at {H : Hp} {ops : List Opd} (ho : ∀ o ∈ ops, o.ok) {i : Nat} {x y : V} (hx : (ops.map Opd.v)[i]? = some x) (hy : ((ops.map fun o => operandV o.v).map V.bl)[i]? = some y) : OpV x ∧ y = .bl (operandV x) := by
  rw [List.map_map, List.getElem?_map] at hy
  rw [List.getElem?_map] at hx
  cases hq : ops[i]? with
  | none =>
    rw [hq] at hx
    cases hx
  | some o =>
    rw [hq] at hx hy
    have ex : o.v = x := Option.some.inj hx
    have ey : V.bl (operandV o.v) = y := Option.some.inj hy
    subst ex
    exact ⟨Opd.opv (ho o (List.mem_of_getElem? hq)), ey.symm⟩
theorem ok_call {f : Addr} {fd : FuncData} (F : Fun K "call" "Process.call" (inClass (topS 30) 5) f fd) (M : MakT P w K mg base C CB k) : FnOk P w K mg base (L2.CX P w) (k + 1 + 1) f fd ["name", "operands"] (spCall K C CB) := by
  refine F.okX scCall (fun vs H Q E h => ?_) (fun cdv A outer s H vs Q E hr h => ?_)
  · obtain ⟨z, u, ops, rfl, _⟩ := h
    rfl
  · obtain ⟨z, u, ops, rfl, hz, hu, hl, ho, m⟩ := h
    have h3 := M.hk
    have bad1 : nameV (.str z) = false → Bad CB "name" H E := fun h1 => m.bad (by unfold badCall; rw [if_neg (by rw [show nameS z = false from h1]; decide)])
    have bad2 : nameV (.str z) = true → ∀ H1, Ex H H1 → opsOk ops = false → Bad CB "operands" H1 E := fun h1 H1 e1 h2 => (m.ex e1).bad (by unfold badCall; rw [if_pos (show nameS z = true from h1), if_neg (by rw [h2]; decide)])
    have good : nameV (.str z) = true → opsOk ops = true → ∀ H2, Ex H H2 → Made C CB (badInit (.call z ops)) (.call z ops) H2 Q E := fun h1 h2 H2 e2 => by
      have e : badCall z ops = badInit (.call z ops) := by unfold badCall; rw [if_pos (show nameS z = true from h1), if_pos h2]
      rw [e] at m
      exact m.ex e2
    have hlen : (ops.map Opd.v).length ≤ 40000 := by rw [List.length_map]; omega
    have hlen2 : ((ops.map fun o => operandV o.v).map V.bl).length = (ops.map Opd.v).length := by simp
    have hbs : ((((ops.map Opd.v).length : Nat) : Int)) = ((ops.length : Nat) : Int) := by rw [List.length_map]
    rcases hu with hu | hu
    · refine ⟨_, pss_cons (ps_expr (pe_cx (E := WE (fun cls d _ H => E cls d H)) M.dem hr (Nat.le_succ _) (by rfl) (fun σ => passAt (takes_of rfl rfl rfl rfl) σ) (pa_cons (pe_cx (E := fun _ => E0) M.name hr (by omega) (by rfl) at0 (pa_cons (pv 0) pa_nil)) (pa_cons pe_str pa_nil))))
        (pss_cons (ps_set (i := 2) scCall.nd rfl (Or.inl rfl) (pe_and (pe_cmpR op_le (pe_callB call_len_seq (by rfl) M.len PySem.boot_len (pa_cons (pv 1) pa_nil)) (C8.pe_gc (by rfl) M.mops) (nomark _)) (pe_one (pe_callB (cr_all rfl) (by rfl) M.all (by decide +kernel) (pa_cons
          (pe_lc (own := [("part", 3)]) (g := gName 3) (tt := tYes) (te := tCallS (spPred operandV) (fun _ => E0) (tCons (tVar 3) tNil)) rfl scCall.nd (pi_list (pv 1)) (blkOk_by (own := [("part", 3)]) (N := ["name", "operands", "allowed", "part"]) (sc := defScope (inClass (topS 30) 5)) (by decide +kernel))
            (fun _ _ _ _ _ => pg_name (i := 3) scCall.nd rfl (Or.inl rfl)) (fun _ _ _ _ _ => pts_nil) (fun _ _ _ _ _ => pe_cx (E := fun _ => E0) M.operand hr (by omega) (by rfl) at0 (pa_cons (pv 3) pa_nil))) pa_nil)))))
        (pss_cons (ps_expr (pe_cx (E := WE (fun cls d _ H => E cls d H)) M.dem hr (Nat.le_succ _) (by rfl) (fun σ => passAt (takes_of rfl rfl rfl rfl) σ) (pa_cons (pv 2) (pa_cons pe_str pa_nil))))
        (pss_one (ps_ret (pe_mx M.make hr (Nat.le_refl _) (by rfl) (passes_call (W := fun cls d _ H => E cls d H) (takes_of rfl rfl rfl rfl) (fun _ _ _ _ h => h)) (pa_cons pe_str (pa_cons (pe_tup (pa_cons (pv 0) (pa_cons (pe_callTy call_tuple_of (by rfl) M.tuple (by decide +kernel) (pa_cons (pv 1) pa_nil)) pa_nil))) pa_nil))))))), ?_⟩
      refine q_demand (by decide +kernel) (ev_cx (ea_cons (ev_var rfl) ea_nil) (sp_pred (f := nameV) (v := .str z) hz)) (fun h1 H1 e1 => ?_) bad1
      have hu1 := e1 _ _ hu
      refine q_asg (v := .bl (opsOk ops)) (ev_andV (ev_is (ev_op (ev_is (ev_cb (ea_cons (ev_var rfl) ea_nil) (fun H2 e2 Q' q' => ⟨u, _, rfl, .inl (sq_of (e2 _ _ hu1)), q' H2 (Ex.refl H2)⟩)) (by rw [hbs])) ev_c rv_I0) rfl) (fun _ => ev_all (bs := ops.map fun o => operandV o.v)
        (el_lcLy (ev_var rfl) (sq_of hu1) hlen (fun _ => rfl) hlen2 (fun i x y H2 e2 hx hy => ?_)))) (fun H2 e2 => ?_)
      · obtain ⟨a1, a2⟩ := ops_at (H := H) ho hx hy
        rw [a2]
        exact ev_cx (ea_cons (ev_var rfl) ea_nil) (sp_pred a1)
      · refine q_demand (by decide +kernel) (ev_var rfl) (fun h2 H3 e3 => ?_) (bad2 h1 H2 (e1.trans e2))
        exact ret_make (p := .call z ops) ev_c (evp_call rfl rfl (OpsAt.ex ((e1.trans e2).trans e3) (.inl hu))) (good h1 h2 H3 ((e1.trans e2).trans e3))
    · refine ⟨_, pss_cons (ps_expr (pe_cx (E := WE (fun cls d _ H => E cls d H)) M.dem hr (Nat.le_succ _) (by rfl) (fun σ => passAt (takes_of rfl rfl rfl rfl) σ) (pa_cons (pe_cx (E := fun _ => E0) M.name hr (by omega) (by rfl) at0 (pa_cons (pv 0) pa_nil)) (pa_cons pe_str pa_nil))))
        (pss_cons (ps_set (i := 2) scCall.nd rfl (Or.inl rfl) (pe_and (pe_cmpR op_le (pe_callB call_len_seq (by rfl) M.len PySem.boot_len (pa_cons (pv 1) pa_nil)) (C8.pe_gc (by rfl) M.mops) (nomark _)) (pe_one (pe_callB (cr_all rfl) (by rfl) M.all (by decide +kernel) (pa_cons
          (pe_lc (own := [("part", 3)]) (g := gName 3) (tt := tYes) (te := tCallS (spPred operandV) (fun _ => E0) (tCons (tVar 3) tNil)) rfl scCall.nd (pi_tup (pv 1)) (blkOk_by (own := [("part", 3)]) (N := ["name", "operands", "allowed", "part"]) (sc := defScope (inClass (topS 30) 5)) (by decide +kernel))
            (fun _ _ _ _ _ => pg_name (i := 3) scCall.nd rfl (Or.inl rfl)) (fun _ _ _ _ _ => pts_nil) (fun _ _ _ _ _ => pe_cx (E := fun _ => E0) M.operand hr (by omega) (by rfl) at0 (pa_cons (pv 3) pa_nil))) pa_nil)))))
        (pss_cons (ps_expr (pe_cx (E := WE (fun cls d _ H => E cls d H)) M.dem hr (Nat.le_succ _) (by rfl) (fun σ => passAt (takes_of rfl rfl rfl rfl) σ) (pa_cons (pv 2) (pa_cons pe_str pa_nil))))
        (pss_one (ps_ret (pe_mx M.make hr (Nat.le_refl _) (by rfl) (passes_call (W := fun cls d _ H => E cls d H) (takes_of rfl rfl rfl rfl) (fun _ _ _ _ h => h)) (pa_cons pe_str (pa_cons (pe_tup (pa_cons (pv 0) (pa_cons (pe_callTy call_tuple_of (by rfl) M.tuple (by decide +kernel) (pa_cons (pv 1) pa_nil)) pa_nil))) pa_nil))))))), ?_⟩
      refine q_demand (by decide +kernel) (ev_cx (ea_cons (ev_var rfl) ea_nil) (sp_pred (f := nameV) (v := .str z) hz)) (fun h1 H1 e1 => ?_) bad1
      have hu1 := e1 _ _ hu
      refine q_asg (v := .bl (opsOk ops)) (ev_andV (ev_is (ev_op (ev_is (ev_cb (ea_cons (ev_var rfl) ea_nil) (fun H2 e2 Q' q' => ⟨u, _, rfl, .inr (st_of (e2 _ _ hu1)), q' H2 (Ex.refl H2)⟩)) (by rw [hbs])) ev_c rv_I0) rfl) (fun _ => ev_all (bs := ops.map fun o => operandV o.v)
        (el_lcTy (ev_var rfl) (st_of hu1) hlen (fun _ => rfl) hlen2 (fun i x y H2 e2 hx hy => ?_)))) (fun H2 e2 => ?_)
      · obtain ⟨a1, a2⟩ := ops_at (H := H) ho hx hy
        rw [a2]
        exact ev_cx (ea_cons (ev_var rfl) ea_nil) (sp_pred a1)
      · refine q_demand (by decide +kernel) (ev_var rfl) (fun h2 H3 e3 => ?_) (bad2 h1 H2 (e1.trans e2))
        exact ret_make (p := .call z ops) ev_c (evp_call rfl rfl (OpsAt.ex ((e1.trans e2).trans e3) (.inr hu))) (good h1 h2 H3 ((e1.trans e2).trans e3))
def badOffer (z : Str) (s m : Int) (op : Opd) (ns : List Str) (r : Pr) : Option Str :=
  if nameS z = true then (if seatsV (.int m) = true then (if (decide (0 ≤ s) && decide (s < m)) = true then (if operandV op.v = true then (if (decide ((ns.length : Int) = m - 1) && namesS ns) = true then badInit (.choice (.cons z s m op ns r .nil)) else some "names") else some "operand") else some "seat") else some "seats") else some "channel"
def spOffer (C CB : Addr) : Sp := fun vs H Q E => ∃ (z : Str) (s m : Int) (op : Opd) (u : Addr) (ns : List Str) (b : Addr) (r : Pr), vs = [.str z, .int s, .int m, op.v, .ref u, .ref b] ∧ z.length ≤ 40000 ∧ op.ok ∧ NmsAt H u ns ∧ ns.length ≤ 90 ∧ (∀ y ∈ ns, y.length ≤ 40000) ∧ PrAt C H b r ∧
  Made C CB (badOffer z s m op ns r) (.choice (.cons z s m op ns r .nil)) H Q E
theorem scOffer : FnScope ["channel", "seat", "seats", "operand", "names", "rest"] ["channel", "seat", "seats", "operand", "names", "rest"] (defScope (inClass (topS 30) 2)) := ⟨rfl, rfl, rfl, by decide +kernel, rfl, by decide +kernel, by decide +kernel⟩
/-- the parts: one offer -/
theorem evp_offer {σ : L2.St} {H : Hp} {z : Str} {s m : Int} {op : Opd} {u b : Addr} {ns : List Str} {r : Pr} (h0 : σ[0]? = some (some (.str z))) (h1 : σ[1]? = some (some (.int s))) (h2 : σ[2]? = some (some (.int m))) (h3 : σ[3]? = some (some op.v)) (h4 : σ[4]? = some (some (.ref u))) (h5 : σ[5]? = some (some (.ref b)))
    (hu : NmsAt H u ns) (hb : PrAt C H b r) : EvP C (tTup (tCons (tTup (tCons (tVar 0) (tCons (tVar 1) (tCons (tVar 2) (tCons (tVar 3) (tCons (tCB (fun xs H Q => ∃ p ys, xs = [V.ref p] ∧ ((SqL K H p ys ∧ ∀ l, H l = none → Q (.ref l) (upd H l (.tup ys))) ∨ SqT K H p ys ∧ Q (.ref p) H)) (tCons (tVar 4) tNil)) (tCons (tVar 5) tNil)))))))
      tNil)) σ H (.choice (.cons z s m op ns r .nil)) := fun H1 e Q q => by
  have one : ∀ (l : Addr) (H2 : Hp), Ex H1 H2 → H2 l = some (.tup (ns.map V.str)) → ∀ o : Addr, H2 o = none → ∀ p : Addr, upd H2 o (.tup [.str z, .int s, .int m, op.v, .ref l, .ref b]) p = none → Q (.ref p) (upd (upd H2 o (.tup [.str z, .int s, .int m, op.v, .ref l, .ref b])) p (.tup [.ref o])) := fun l H2 e2 hl o ho p hp => by
    have e3 : Ex H2 (upd (upd H2 o (.tup [.str z, .int s, .int m, op.v, .ref l, .ref b])) p (.tup [.ref o])) := (Ex.new ho).trans (Ex.new hp)
    refine q p _ [.ref o] (fresh_back (e2.trans (Ex.new ho)) hp) (e2.trans e3) upd_same (by show 1 ≤ 100; decide) ?_
    show OfsAt C _ [.ref o] (.cons z s m op ns r .nil)
    unfold OfsAt
    exact ⟨o, l, b, [], rfl, Ex.new hp _ _ upd_same, e3 _ _ hl, hb.ex ((e.trans e2).trans e3), by unfold OfsAt; rfl⟩
  rcases hu with hu | hu
  · exact ⟨_, h0, _, h1, _, h2, _, h3, _, h4, u, ns.map V.str, rfl, .inl ⟨sq_of (e _ _ hu), fun l hl => ⟨_, h5, by show 6 ≤ sizeLine; decide, fun o ho => ⟨by show 1 ≤ sizeLine; decide, fun p hp => one l _ (Ex.new hl) upd_same o ho p hp⟩⟩⟩⟩
  · exact ⟨_, h0, _, h1, _, h2, _, h3, _, h4, u, ns.map V.str, rfl, .inr ⟨st_of (e _ _ hu), _, h5, by show 6 ≤ sizeLine; decide, fun o ho => ⟨by show 1 ≤ sizeLine; decide, fun p hp => one u _ (Ex.refl _) (e _ _ hu) o ho p hp⟩⟩⟩
theorem ok_offer {f : Addr} {fd : FuncData} (F : Fun K "offer" "Process.offer" (inClass (topS 30) 2) f fd) (M : MakT P w K mg base C CB k) : FnOk P w K mg base (L2.CX P w) (k + 1 + 1) f fd ["channel", "seat", "seats", "operand", "names", "rest"] (spOffer C CB) := by
  refine F.okX scOffer (fun vs H Q E h => ?_) (fun cdv A outer s H vs Q E hr h => ?_)
  · obtain ⟨z, s', m, op, u, ns, b, r, rfl, _⟩ := h
    rfl
  · obtain ⟨z, s', m, op, u, ns, b, r, rfl, hz, ho, hu, hl, hy, hb, md⟩ := h
    have h3 := M.hk
    have hlen : ∀ {H2 : Hp}, Ex H H2 → Ev (tCB (fun xs H Q => ∃ a ys, xs = [V.ref a] ∧ (SqL K H a ys ∨ SqT K H a ys) ∧ Q (.int (ys.length : Nat)) H) (tCons (tVar 4) tNil)) [some (.str z), some (.int s'), some (.int m), some op.v, some (.ref u), some (.ref b)] H2 (.int (ns.length : Int)) := fun e2 =>
      ev_is (ev_cb (ea_cons (ev_var rfl) ea_nil) (fun H5 e5 Q' q' => ⟨u, _, rfl, (hu.ex (e2.trans e5)).sq, q' H5 (Ex.refl H5)⟩)) (by rw [List.length_map])
    refine ⟨_, pss_cons (ps_expr (pe_cx (E := WE (fun cls d _ H => E cls d H)) M.dem hr (Nat.le_succ _) (by rfl) (fun σ => passAt (takes_of rfl rfl rfl rfl) σ) (pa_cons (pe_cx (E := fun _ => E0) M.name hr (by omega) (by rfl) at0 (pa_cons (pv 0) pa_nil)) (pa_cons pe_str pa_nil))))
      (pss_cons (ps_expr (pe_cx (E := WE (fun cls d _ H => E cls d H)) M.dem hr (Nat.le_succ _) (by rfl) (fun σ => passAt (takes_of rfl rfl rfl rfl) σ) (pa_cons (pe_cx (E := fun _ => E0) M.seats hr (by omega) (by rfl) at0 (pa_cons (pv 2) pa_nil)) (pa_cons pe_str pa_nil))))
      (pss_cons (ps_expr (pe_cx (E := WE (fun cls d _ H => E cls d H)) M.dem hr (Nat.le_succ _) (by rfl) (fun σ => passAt (takes_of rfl rfl rfl rfl) σ) (pa_cons (pe_and (pe_cx (E := fun _ => E0) M.int hr (by omega) (by rfl) at0 (pa_cons (pv 1) pa_nil)) (pe_one (pe_chain op_le op_lt pe_int (pv 1) (pv 2)))) (pa_cons pe_str pa_nil))))
      (pss_cons (ps_expr (pe_cx (E := WE (fun cls d _ H => E cls d H)) M.dem hr (Nat.le_succ _) (by rfl) (fun σ => passAt (takes_of rfl rfl rfl rfl) σ) (pa_cons (pe_cx (E := fun _ => E0) M.operand hr (by omega) (by rfl) at0 (pa_cons (pv 3) pa_nil)) (pa_cons pe_str pa_nil))))
      (pss_cons (ps_expr (pe_cx (E := WE (fun cls d _ H => E cls d H)) M.dem hr (Nat.le_succ _) (by rfl) (fun σ => passAt (takes_of rfl rfl rfl rfl) σ) (pa_cons (pe_and (pe_cmpR op_eq (pe_callB call_len_seq (by rfl) M.len PySem.boot_len (pa_cons (pv 4) pa_nil)) (pe_op op_sub (pv 2) pe_int) (nomark _)) (pe_one (pe_cx (E := fun _ => E0) M.names hr (by omega) (by rfl) at0 (pa_cons (pv 4) pa_nil)))) (pa_cons pe_str pa_nil))))
      (pss_one (ps_ret (pe_mx M.make hr (Nat.le_refl _) (by rfl) (passes_call (W := fun cls d _ H => E cls d H) (takes_of rfl rfl rfl rfl) (fun _ _ _ _ h => h)) (pa_cons pe_str (pa_cons (pe_tup (pa_cons (pe_tup (pa_cons (pv 0) (pa_cons (pv 1) (pa_cons (pv 2) (pa_cons (pv 3) (pa_cons (pe_callTy call_tuple_of (by rfl) M.tuple (by decide +kernel) (pa_cons (pv 4) pa_nil)) (pa_cons (pv 5) pa_nil))))))) pa_nil)) pa_nil))))))))), ?_⟩
    refine q_demand (by decide +kernel) (ev_cx (ea_cons (ev_var rfl) ea_nil) (sp_pred (f := nameV) (v := .str z) hz)) (fun h1 H1 e1 => ?_) (fun h1 => md.bad (by unfold badOffer; rw [if_neg (by rw [show nameS z = false from h1]; decide)]))
    have g1 : nameS z = true := h1
    refine q_demand (by decide +kernel) (ev_cx (ea_cons (ev_var rfl) ea_nil) (sp_pred (f := seatsV) (v := .int m) True.intro)) (fun h2 H2 e2 => ?_) (fun h2 => (md.ex e1).bad (by unfold badOffer; rw [if_pos g1, if_neg (by rw [h2]; decide)]))
    have x2 := e1.trans e2
    refine q_demand (b := decide (0 ≤ s') && decide (s' < m)) (by decide +kernel) (ev_andV (a := true) (ev_cx (ea_cons (ev_var rfl) ea_nil) (sp_pred (f := intV) (v := .int s') True.intro)) (fun _ => ev_chain ev_c (ev_var rfl) rv_I0 (fun _ => ev_var rfl) (fun _ => rv_I0))) (fun h4 H3 e3 => ?_) (fun h4 => (md.ex x2).bad (by unfold badOffer; rw [if_pos g1, if_pos h2, if_neg (by rw [h4]; decide)]))
    have x3 := x2.trans e3
    refine q_demand (by decide +kernel) (ev_cx (ea_cons (ev_var rfl) ea_nil) (sp_pred (f := operandV) (v := op.v) (Opd.opv ho))) (fun h5 H4 e4 => ?_) (fun h5 => (md.ex x3).bad (by unfold badOffer; rw [if_pos g1, if_pos h2, if_pos h4, if_neg (by rw [h5]; decide)]))
    have x4 := x3.trans e4
    refine q_demand (b := decide ((ns.length : Int) = m - 1) && namesS ns) (by decide +kernel) (ev_andV (ev_is (ev_op (hlen x4) (ev_op (ev_var rfl) ev_c rv_I0) (rv_eq rfl)) (congrArg V.bl (decide_eq_decide.mpr ⟨fun z => (V.int.inj z), fun z => congrArg V.int z⟩))) (fun _ => ev_cx (ea_cons (ev_var rfl) ea_nil) (fun H5 e5 Q' q' E' => ⟨u, ns, rfl, hu.ex (x4.trans e5), hl, hy, fun H6 e6 => q' H6 e6⟩)))
      (fun h6 H5 e5 => ?_) (fun h6 => (md.ex x4).bad (by unfold badOffer; rw [if_pos g1, if_pos h2, if_pos h4, if_pos h5, if_neg (by rw [h6]; decide)]))
    have x5 := x4.trans e5
    have e : badOffer z s' m op ns r = badInit (.choice (.cons z s' m op ns r .nil)) := by unfold badOffer; rw [if_pos g1, if_pos h2, if_pos h4, if_pos h5, if_pos h6]
    rw [e] at md
    exact ret_make (p := .choice (.cons z s' m op ns r .nil)) ev_c (evp_offer rfl rfl rfl rfl rfl rfl (hu.ex x5) (hb.ex x5)) (md.ex x5)
end
end Fs

set_option Elab.async false
set_option linter.all false
set_option maxRecDepth 100000
set_option maxHeartbeats 2000000
/-! a op b, both instances of one class of the program that defines the operator. -/
namespace FsR
open PySem PySem.Spec PyProof.Rows L2 ClX
structure OpM (K : PySem.W.Frag) (C : Addr) (op : Operator) (g : Addr) : Prop where
  fst : PySem.W.selfFirst K C = true
  at_ : PySem.W.findIn K (.ref C) (PySem.dunder op.info.2) = some (some (.ref g))
  fn : PySem.W.isFn K (.ref g) = true
/-- a op b -/
def tOwn (C : Addr) (sp : Sp) (E : L2.St → XK) (ta tb : TE) : TE := fun σ H Q => ta σ H fun x H1 => tb σ H1 fun y H2 => ∃ (a b dx dy : Addr) (fs gs : List (Str × V)), x = .ref a ∧ y = .ref b ∧ H2 a = some (.ins C dx fs) ∧ H2 b = some (.ins C dy gs) ∧ sp [.ref a, .ref b] H2 Q (E σ)
theorem no_notimpl {y : V} (r : RelV y Value.notImplemented) : False := by
  cases y <;> first | (obtain ⟨t, e⟩ := r; cases e; done) | (cases r; done)
theorem pe_own {X : Cx} {CX : CXT} {k : Nat} {C g : Addr} {fd : FuncData} {ps : List Str} {sp : Sp} {E : L2.St → XK} {ea eb : Expr} {op : Operator} {pos : Pos} {ta tb : TE} (ha : PE X ea ta) (hb : PE X eb tb) (M : OpM X.K C op g) (F : FnOk X.prog X.w X.K X.mg X.base CX k g fd ps sp) (hr : Room k X.A) (hd : Binds X.K fd ps [])
    (hx : ∀ σ, PassesAt CX X σ (E σ)) : PE X (.BinOp ea op eb pos) (tOwn C sp E ta tb) := by
  refine ⟨fun pins s σ H Q I h => wpAny_BinOp (binT ha hb I h fun v u s2 x y H2 I2 rx ry q => ?_)⟩
  obtain ⟨a, b, dx, dy, fs, gs, rfl, rfl, h1, h2, q⟩ := q
  obtain rfl : v = Value.ref a := rx
  obtain rfl : u = Value.ref b := ry
  obtain ⟨_, O1, _, _, _, _⟩ := ins_get I2.hok h1
  obtain ⟨_, O2, _, _, _, _⟩ := ins_get I2.hok h2
  obtain ⟨_, i1, _⟩ := O1.look
  obtain ⟨_, i2, _⟩ := O2.look
  obtain ⟨m, fr⟩ := I2.fr
  refine PySem.W.binop_K fr I2.ok.mod.kin i1 i2.type M.fst M.at_ M.fn (wpAny_mono (run_fnS (us := [.ref a, .ref b]) (vs := [.ref a, .ref b]) F hr hd (hx σ) I2 (.cons rfl (.cons rfl .nil)) q) (fun w s' hw => ?_) fun _ _ z => z)
  obtain ⟨y, H', J, r, q'⟩ := hw
  have fin : EP X pins σ Q w s' := ⟨y, H', J, r, q'⟩
  cases w with
  | notImplemented => exact no_notimpl r
  | _ => exact fin
end FsR

set_option Elab.async false
set_option linter.all false
set_option maxRecDepth 100000
set_option maxHeartbeats 4000000
namespace Fs
open PySem L2 Evl FsE FsC FsR FsT
/-! ### sums of choices -/
def Ofs.app : Ofs → Ofs → Ofs
  | .nil, qs => qs
  | .cons c s m op ns r os, qs => .cons c s m op ns r (os.app qs)
def Pr.isCh : Pr → Bool
  | .choice _ => true
  | _ => false
def Pr.ofs : Pr → Ofs
  | .choice os => os
  | _ => .nil
theorem Pr.ch_eq {p : Pr} (h : p.isCh = true) : p = .choice p.ofs := by
  cases p <;> first | rfl | cases h
theorem kind_ch (p : Pr) : decide (V.str p.kind = V.str "choice") = p.isCh := by
  cases p with
  | choice os =>
    show decide (V.str ("choice" : Str) = V.str "choice") = true
    decide +kernel
  | new n k r =>
    show decide (V.str ("new" : Str) = V.str "choice") = false
    decide +kernel
  | cond l r y n =>
    show decide (V.str ("if" : Str) = V.str "choice") = false
    decide +kernel
  | call n ops =>
    show decide (V.str ("call" : Str) = V.str "choice") = false
    decide +kernel
theorem Ofs.app_nil : ∀ os : Ofs, os.app .nil = os
  | .nil => rfl
  | .cons c s m op ns r os => congrArg (Ofs.cons c s m op ns r) (Ofs.app_nil os)
theorem OfsAt.app {C : Addr} {H : Hp} : ∀ {os qs : Ofs} {xs ys : List V}, OfsAt C H xs os → OfsAt C H ys qs → OfsAt C H (xs ++ ys) (os.app qs)
  | .nil, qs, xs, ys, h, g => by
    unfold OfsAt at h
    subst h
    exact g
  | .cons c s m op ns r os, qs, xs, ys, h, g => by
    unfold OfsAt at h
    obtain ⟨o, u, b, zs, rfl, h1, h2, h3, h4⟩ := h
    show OfsAt C H (.ref o :: (zs ++ ys)) (.cons c s m op ns r (os.app qs))
    unfold OfsAt
    exact ⟨o, u, b, zs ++ ys, rfl, h1, h2, h3, OfsAt.app h4 g⟩
theorem Ofs.app_len : ∀ os qs : Ofs, (os.app qs).len = os.len + qs.len
  | .nil, qs => by
    show qs.len = 0 + qs.len
    omega
  | .cons c s m op ns r os, qs => by
    have ih := Ofs.app_len os qs
    show (os.app qs).len + 1 = os.len + 1 + qs.len
    omega
def badAdd (p r : Pr) : Option Str := if (p.isCh && r.isCh) = true then (if p.ofs.len + r.ofs.len ≤ 6 then badInit (.choice (p.ofs.app r.ofs)) else some "offers") else some "choice"
def spChoice (C : Addr) : Sp := fun vs H Q _ => ∃ (a : Addr) (p : Pr), vs = [.ref a] ∧ PrAt C H a p ∧ RetV (.bl p.isCh) H Q
def spAdd (C CB : Addr) : Sp := fun vs H Q E => ∃ (a b : Addr) (p r : Pr), vs = [.ref a, .ref b] ∧ PrAt C H a p ∧ PrAt C H b r ∧ p.ofs.len ≤ 40 ∧ r.ofs.len ≤ 40 ∧ Made C CB (badAdd p r) (.choice (p.ofs.app r.ofs)) H Q E
section
variable {P : Program} {w : World} {K : PySem.W.Frag} {mg : Str → Option Value} {base : Heap} {C CB : Addr}
/-- x = t1 + t2, two tuples -/
theorem q_cat {σ : L2.St} {H : Hp} {ta tb : TE} {t1 t2 : Addr} {xs ys : List V} {i : Nat} {tz : TS} {D : Ends} (h1 : Ev ta σ H (.ref t1)) (h2 : Ev tb σ H (.ref t2)) (g1 : H t1 = some (.tup xs)) (g2 : H t2 = some (.tup ys)) (hl : xs.length + ys.length ≤ 100000)
    (k : ∀ t H2, Ex H H2 → H2 t = some (.tup (xs ++ ys)) → tz D (σ.set i (some (.ref t))) H2) : tSeq (tAsg (tOp (rCatA K) ta tb) (gName i)) tz D σ H :=
  h1 H (Ex.refl H) _ fun H1 e1 => h2 H1 e1 _ fun H2 e2 => ⟨t1, t2, xs, ys, rfl, rfl, st_of ((e1.trans e2) _ _ g1), st_of ((e1.trans e2) _ _ g2), sz_of hl,
    fun hx => k t2 H2 (e1.trans e2) (by rw [hx]; exact (e1.trans e2) _ _ g2), fun _ hy => k t1 H2 (e1.trans e2) (by rw [hy, List.append_nil]; exact (e1.trans e2) _ _ g1), fun _ _ p hp => k p _ ((e1.trans e2).trans (Ex.new hp)) upd_same⟩
/-- Process(kind, parts), parts a name -/
theorem ret_makeV {σ : L2.St} {H : Hp} {tk : TE} {i : Nat} {p : Pr} {t : Addr} {ps : List V} {D : Ends} {E : XK} (hkd : Ev tk σ H (.str p.kind)) (hσ : σ[i]? = some (some (.ref t))) (ht : H t = some (.tup ps)) (hl : ps.length ≤ 100) (hP : PartsAt C H ps p) (m : Made C CB (badInit p) p H D.rt E) :
    tRet (tMake C (spInit C CB) [] E (tCons tk (tCons (tVar i) tNil))) D σ H :=
  hkd H (Ex.refl H) _ fun H1 e1 => ⟨_, hσ, fun x dx hx hdx hne => by
    have x0 : Ex H1 (upd (upd H1 dx (.own x)) x (.ins C dx [])) := by
      intro b o hb
      rw [upd_ne (ne_of_none hb hx), upd_ne (ne_of_none hb hdx)]
      exact hb
    refine ⟨x, dx, p, t, ps, H1, rfl, upd_same, hx, x0, e1 _ _ ht, hl, hP.ex e1, fun hb H' e' h' => ⟨rfl, ?_⟩, fun f hf => ((m.2 f hf).ex e1)⟩
    exact m.1 hb x H' (fresh_back e1 hx) (e1.trans e') (PrAt.mk ⟨dx, h'⟩ (e' _ _ (e1 _ _ ht)) ((hP.ex e1).ex e'))⟩
theorem scChoice : FnScope ["term"] ["term"] (defScope (topS 32)) := ⟨rfl, rfl, rfl, by decide +kernel, rfl, by decide +kernel, by decide +kernel⟩
theorem ok_is_choice {f : Addr} {fd : FuncData} (F : Fun K "is_choice" "is_choice" (topS 32) f fd) (B : BasT K mg) (T : TerT K mg C CB) : FnOk P w K mg base CX0 1 f fd ["term"] (spChoice C) := by
  refine F.ok scChoice (fun vs H Q E h => ?_) (fun cdv A outer s H vs Q E hr h => ?_)
  · obtain ⟨a, p, rfl, _⟩ := h
    rfl
  · obtain ⟨a, p, rfl, ha, q⟩ := h
    refine ⟨_, pss_one (ps_ret (pe_and (pe_callB (id := "isinstance") (r := rIsi K) call_isi (by rfl) B.isinst (by decide +kernel) (pa_cons (pv 0) (pa_cons (pe_glob (v := .ref C) (by rfl) T.mgC rfl) pa_nil))) (pe_one (pe_cmpR op_eq (pe_fld (pv 0) rfl) pe_str (nomark _))))), ?_⟩
    obtain ⟨t, ps, ⟨dx, h1⟩, _⟩ := ha.out
    refine s_ret (v := .bl p.isCh) (ev_is (ev_andV (a := true) (ev_cb (ea_cons (ev_var rfl) (ea_cons ev_c ea_nil)) (rc_isiOwn (tyx_pr T ha) kOwn)) (fun _ => ev_op (ev_fld (ev_var rfl) h1 T.cl T.nK pf_kind) ev_c (rv_eq rfl))) ?_) q
    rw [kind_ch]
    rfl
theorem scAdd : FnScope ["self", "other", "offers"] ["self", "other"] (defScope (inClass (topS 30) 7)) := ⟨rfl, rfl, rfl, by decide +kernel, rfl, by decide +kernel, by decide +kernel⟩
theorem ok_add {f : Addr} {fd : FuncData} {k : Nat} (F : Fun K "__add__" "Process.__add__" (inClass (topS 30) 7) f fd) (T : TerT K mg C CB) (M : MakT P w K mg base C CB k) (GI : CalX P w K mg base CX0 1 "is_choice" (spChoice C)) (mo : GC mg "MOST_OFFERS" (.int 6)) : FnOk P w K mg base (L2.CX P w) (k + 1 + 1) f fd ["self", "other"] (spAdd C CB) := by
  refine F.okX scAdd (fun vs H Q E h => ?_) (fun cdv A outer s H vs Q E hr h => ?_)
  · obtain ⟨a, b, p, r, rfl, _⟩ := h
    rfl
  · obtain ⟨a, b, p, r, rfl, ha, hb, lp, lr, md⟩ := h
    have h3 := M.hk
    refine ⟨_, pss_cons (ps_expr (pe_cx (E := WE (fun cls d _ H => E cls d H)) M.dem hr (Nat.le_succ _) (by rfl) (fun σ => passAt (takes_of rfl rfl rfl rfl) σ) (pa_cons (pe_and (pe_cx (E := fun _ => E0) GI hr (by omega) (by rfl) at0 (pa_cons (pv 0) pa_nil)) (pe_one (pe_cx (E := fun _ => E0) GI hr (by omega) (by rfl) at0 (pa_cons (pv 1) pa_nil)))) (pa_cons pe_str pa_nil))))
      (pss_cons (ps_set (i := 2) scAdd.nd rfl (Or.inl rfl) (pe_op op_catA (pe_fld (pv 0) rfl) (pe_fld (pv 1) rfl)))
      (pss_cons (ps_expr (pe_cx (E := WE (fun cls d _ H => E cls d H)) M.dem hr (Nat.le_succ _) (by rfl) (fun σ => passAt (takes_of rfl rfl rfl rfl) σ) (pa_cons (pe_cmpR op_le (pe_callB call_len_seq (by rfl) M.len PySem.boot_len (pa_cons (pv 2) pa_nil)) (C8.pe_gc (by rfl) mo) (nomark _)) (pa_cons pe_str pa_nil))))
      (pss_one (ps_ret (pe_mx M.make hr (Nat.le_refl _) (by rfl) (passes_call (W := fun cls d _ H => E cls d H) (takes_of rfl rfl rfl rfl) (fun _ _ _ _ h => h)) (pa_cons pe_str (pa_cons (pv 2) pa_nil))))))), ?_⟩
    refine q_demand (b := p.isCh && r.isCh) (by decide +kernel) (ev_andV (ev_cx (ea_cons (ev_var rfl) ea_nil) (fun H1 e1 Q' q' E' => ⟨a, p, rfl, ha.ex e1, fun H2 e2 => q' H2 e2⟩)) (fun _ => ev_cx (ea_cons (ev_var rfl) ea_nil) (fun H1 e1 Q' q' E' => ⟨b, r, rfl, hb.ex e1, fun H2 e2 => q' H2 e2⟩))) (fun h1 H1 e1 => ?_) (fun h1 => md.bad (by unfold badAdd; rw [if_neg (by rw [h1]; decide)]))
    have hpc : p.isCh = true := (Bool.and_eq_true_iff.mp h1).1
    have hrc : r.isCh = true := (Bool.and_eq_true_iff.mp h1).2
    have ha1 : PrAt C H1 a (.choice p.ofs) := Pr.ch_eq hpc ▸ ha.ex e1
    have hb1 : PrAt C H1 b (.choice r.ofs) := Pr.ch_eq hrc ▸ hb.ex e1
    obtain ⟨t1, xs, ⟨dx, g1⟩, g2, g3⟩ := ha1.out
    obtain ⟨t2, ys, ⟨dy, j1⟩, j2, j3⟩ := hb1.out
    have g3' : OfsAt C H1 xs p.ofs := g3
    have j3' : OfsAt C H1 ys r.ofs := j3
    have l1 := g3'.len
    have l2 := j3'.len
    have hob : badAdd p r = if p.ofs.len + r.ofs.len ≤ 6 then badInit (.choice (p.ofs.app r.ofs)) else some "offers" := by unfold badAdd; rw [if_pos h1]
    rw [hob] at md
    refine q_cat (ev_fld (ev_var rfl) g1 T.cl T.nP pf_parts) (ev_fld (ev_var rfl) j1 T.cl T.nP pf_parts) g2 j2 (by omega) (fun t H2 e2 ht => ?_)
    have hlen : (((xs ++ ys).length : Nat) : Int) = ((p.ofs.len + r.ofs.len : Nat) : Int) := by rw [List.length_append, l1, l2]
    refine q_demand (b := decide (((p.ofs.len + r.ofs.len : Nat) : Int) ≤ 6)) (by decide +kernel) (ev_op (ev_is (ev_cb (ea_cons (ev_var rfl) ea_nil) (fun H3 e3 Q' q' => ⟨t, _, rfl, .inr (st_of (e3 _ _ ht)), q' H3 (Ex.refl H3)⟩)) (by rw [hlen])) ev_c rv_I0) (fun h2 H3 e3 => ?_) (fun h2 => ?_)
    · have h2' : p.ofs.len + r.ofs.len ≤ 6 := by
        have : (((p.ofs.len + r.ofs.len : Nat) : Int)) ≤ 6 := by simpa using h2
        omega
      rw [if_pos h2'] at md
      have x3 := (e1.trans e2).trans e3
      exact ret_makeV (p := .choice (p.ofs.app r.ofs)) ev_c rfl (e3 _ _ ht) (by rw [List.length_append]; omega) (OfsAt.app (g3'.ex (e2.trans e3)) (j3'.ex (e2.trans e3))) (md.ex x3)
    · have h2' : ¬ p.ofs.len + r.ofs.len ≤ 6 := by
        have : ¬ (((p.ofs.len + r.ofs.len : Nat) : Int)) ≤ 6 := by simpa using h2
        omega
      rw [if_neg h2'] at md
      exact (md.ex (e1.trans e2)).bad rfl
end
end Fs

set_option Elab.async false
set_option linter.all false
set_option maxRecDepth 100000
set_option maxHeartbeats 2000000
/-! Lists of things that stand in the heap; what a list's change leaves. -/
namespace FsK
open PySem PySem.Spec PyProof.Rows L2 Evl FsE FsC FsR Fs
/-- a list may change: what stands in objects and tuples stays -/
structure ExN (H H' : Hp) : Prop where
  ins : ∀ a C dx fs, H a = some (.ins C dx fs) → H' a = some (.ins C dx fs)
  tup : ∀ a xs, H a = some (.tup xs) → H' a = some (.tup xs)
theorem ExN.upd {H : Hp} {l : Addr} {xs ys : List V} (h : H l = some (.lst xs)) : ExN H (upd H l (.lst ys)) := ⟨fun a C dx fs ha => by
    rw [upd_ne (fun z => by rw [z, h] at ha; cases ha)]
    exact ha, fun a xs ha => by
    rw [upd_ne (fun z => by rw [z, h] at ha; cases ha)]
    exact ha⟩
theorem ExN.of {H H' : Hp} (e : Ex H H') : ExN H H' := ⟨fun _ _ _ _ h => e _ _ h, fun _ _ h => e _ _ h⟩
theorem ExN.trans {H H1 H2 : Hp} (e : ExN H H1) (e' : ExN H1 H2) : ExN H H2 := ⟨fun a C dx fs h => e'.ins _ _ _ _ (e.ins _ _ _ _ h), fun a xs h => e'.tup _ _ (e.tup _ _ h)⟩
mutual
theorem PrAt.keep {C : Addr} {H H' : Hp} (e : ExN H H') : ∀ {p : Pr} {a : Addr}, PrAt C H a p → PrAt C H' a p
  | .choice os, a, h => by
    unfold PrAt at h ⊢
    obtain ⟨t, ps, ⟨dx, h1⟩, h2, h3⟩ := h
    exact ⟨t, ps, ⟨dx, e.ins _ _ _ _ h1⟩, e.tup _ _ h2, OfsAt.keep e h3⟩
  | .new n k r, a, h => by
    unfold PrAt at h ⊢
    obtain ⟨t, b, ⟨dx, h1⟩, h2, h3⟩ := h
    exact ⟨t, b, ⟨dx, e.ins _ _ _ _ h1⟩, e.tup _ _ h2, PrAt.keep e h3⟩
  | .cond l r y n, a, h => by
    unfold PrAt at h ⊢
    obtain ⟨t, b, c, ⟨dx, h1⟩, h2, h3, h4⟩ := h
    exact ⟨t, b, c, ⟨dx, e.ins _ _ _ _ h1⟩, e.tup _ _ h2, PrAt.keep e h3, PrAt.keep e h4⟩
  | .call n ops, a, h => by
    unfold PrAt at h ⊢
    obtain ⟨t, u, ⟨dx, h1⟩, h2, h3⟩ := h
    exact ⟨t, u, ⟨dx, e.ins _ _ _ _ h1⟩, e.tup _ _ h2, e.tup _ _ h3⟩
theorem OfsAt.keep {C : Addr} {H H' : Hp} (e : ExN H H') : ∀ {os : Ofs} {ps : List V}, OfsAt C H ps os → OfsAt C H' ps os
  | .nil, ps, h => by
    unfold OfsAt at h ⊢
    exact h
  | .cons c s m op ns r os, ps, h => by
    unfold OfsAt at h ⊢
    obtain ⟨o, u, b, qs, h1, h2, h3, h4, h5⟩ := h
    exact ⟨o, u, b, qs, h1, e.tup _ _ h2, e.tup _ _ h3, PrAt.keep e h4, OfsAt.keep e h5⟩
end
/-- item by item -/
def LsA {α : Type} (R : Hp → V → α → Prop) (H : Hp) : List V → List α → Prop
  | [], [] => True
  | v :: vs, x :: xs => R H v x ∧ LsA R H vs xs
  | _, _ => False
section
variable {α : Type} {R : Hp → V → α → Prop} {H H' : Hp}
theorem LsA.imp (e : ∀ v x, R H v x → R H' v x) : ∀ {vs : List V} {xs : List α}, LsA R H vs xs → LsA R H' vs xs
  | [], [], _ => True.intro
  | _ :: _, _ :: _, h => ⟨e _ _ h.1, LsA.imp e h.2⟩
  | [], _ :: _, h => h.elim
  | _ :: _, [], h => h.elim
theorem LsA.append : ∀ {vs ws : List V} {xs ys : List α}, LsA R H vs xs → LsA R H ws ys → LsA R H (vs ++ ws) (xs ++ ys)
  | [], _, [], _, _, g => g
  | _ :: _, _, _ :: _, _, h, g => ⟨h.1, LsA.append h.2 g⟩
  | [], _, _ :: _, _, h, _ => h.elim
  | _ :: _, _, [], _, h, _ => h.elim
theorem LsA.snoc {v : V} {x : α} {vs : List V} {xs : List α} (h : LsA R H vs xs) (hv : R H v x) : LsA R H (vs ++ [v]) (xs ++ [x]) := h.append ⟨hv, True.intro⟩
theorem LsA.length : ∀ {vs : List V} {xs : List α}, LsA R H vs xs → vs.length = xs.length
  | [], [], _ => rfl
  | _ :: _, _ :: _, h => congrArg (· + 1) (LsA.length h.2)
  | [], _ :: _, h => h.elim
  | _ :: _, [], h => h.elim
theorem LsA.get : ∀ {vs : List V} {xs : List α} {i : Nat} {v : V}, LsA R H vs xs → vs[i]? = some v → ∃ x, xs[i]? = some x ∧ R H v x
  | _ :: _, x :: _, 0, v, h, e => ⟨x, rfl, by cases e; exact h.1⟩
  | _ :: _, _ :: _, i + 1, v, h, e => LsA.get (i := i) h.2 e
  | [], _, _, _, _, e => by simp at e
  | _ :: _, [], _, _, h, _ => h.elim
theorem LsA.at_ {vs : List V} {xs : List α} {i : Nat} (h : LsA R H vs xs) (hi : i < vs.length) : ∃ v x, vs[i]? = some v ∧ xs[i]? = some x ∧ R H v x := by
  obtain ⟨x, h1, h2⟩ := LsA.get h (List.getElem?_eq_getElem hi)
  exact ⟨_, x, List.getElem?_eq_getElem hi, h1, h2⟩
end
/-- it evaluates to something with this word -/
def EvS (te : TE) (σ : L2.St) (H : Hp) (Pv : V → Hp → Prop) : Prop := ∀ H1, Ex H H1 → ∀ Q : VK, (∀ v H2, Ex H1 H2 → Pv v H2 → Q v H2) → te σ H1 Q
section
variable {σ : L2.St} {H : Hp} {te ta : TE} {Pv : V → Hp → Prop} {K : PySem.W.Frag} {D : Ends} {tz : TS}
theorem s_appS {l : Addr} {xs : List V} (hl : H l = some (.lst xs)) (ha : Ev ta σ H (.ref l)) (h : EvS te σ H Pv) (hz : xs.length < 100000) (k : ∀ v H1, Ex H H1 → Pv v H1 → D.nx σ (upd H1 l (.lst (xs ++ [v])))) :
    tDrop (tBM K "list" rAppend ta (tCons te tNil)) D σ H := ha H (Ex.refl H) _ fun H1 e1 =>
  ⟨Or.inl ⟨rfl, xs, sq_of (e1 l _ hl)⟩, h H1 e1 _ fun v H2 e2 hv => ⟨l, xs, v, rfl, rfl, e2 l _ (e1 l _ hl), sz_lt hz, k v H2 (e1.trans e2) hv⟩⟩
theorem q_asgS {i : Nat} (h : EvS te σ H Pv) (k : ∀ v H1, Ex H H1 → Pv v H1 → tz D (σ.set i (some v)) H1) : tSeq (tAsg te (gName i)) tz D σ H := h H (Ex.refl H) _ fun v H1 e1 hv => k v H1 e1 hv
theorem s_retS (h : EvS te σ H Pv) (k : ∀ v H1, Ex H H1 → Pv v H1 → D.rt v H1) : tRet te D σ H := h H (Ex.refl H) _ fun v H1 e1 hv => k v H1 e1 hv
/-- a slice of a new list -/
theorem el_slN {tl th : TO} {xs : List V} {lo hi : Option Int} (h : EvL te σ H xs) (h1 : EvO tl σ H lo) (h2 : EvO th σ H hi) : EvL (tSl (rSlL K) te tl th) σ H (cutV xs lo hi) := fun H1 e Q q =>
  h H1 e _ fun a H2 ha e2 h2' => h1 H2 (e.trans e2) _ fun H3 e3 => h2 H3 ((e.trans e2).trans e3) _ fun H4 e4 =>
    ⟨a, xs, rfl, sq_of ((e3.trans e4) _ _ h2'), fun p hp => q p _ (fresh_back ((e2.trans e3).trans e4) hp) (((e2.trans e3).trans e4).trans (Ex.new hp)) upd_same⟩
end
end FsK

set_option Elab.async false
set_option linter.all false
set_option maxRecDepth 100000
set_option maxHeartbeats 4000000
namespace Fs
open PySem L2 Evl FsE FsC FsR FsT FsK
theorem op_mulS {X : Cx} : OpR X (binaryOp .Mult) (fun x y H Q => ∃ (a : Str) (n : Int), x = .str a ∧ y = .int n ∧ MulOk a n ∧ Q (.str (Txt.mul a n)) H) := by
  intro pins s σ H x y v u Q I rx ry h
  obtain ⟨a, n, rfl, rfl, hm, q⟩ := h
  obtain ⟨t, rfl⟩ := rx
  obtain ⟨t', rfl⟩ := ry
  exact SB.mul hm (fun t' k => ⟨.str (Txt.mul a n), H, I.tok _, ⟨_, rfl⟩, q⟩)
theorem at_of {α : Type} {xs : List α} {i : Int} (h0 : 0 ≤ i) (h1 : i < xs.length) : ∃ x, x ∈ xs ∧ atI xs i = some x := by
  obtain ⟨j, rfl⟩ : ∃ j : Nat, i = (j : Int) := ⟨i.toNat, by omega⟩
  have hj : j < xs.length := by omega
  exact ⟨xs[j], List.getElem_mem hj, atI_nat (List.getElem?_eq_getElem hj)⟩
theorem rv_cat {x y : Str} {H : Hp} (h : x.length + y.length ≤ 100000) : RV (fun x y H Q => ∃ i j, x = V.str i ∧ y = V.str j ∧ i.length + j.length ≤ sizeLine ∧ Q (.str (i ++ j)) H) (.str x) (.str y) H (.str (x ++ y)) := fun H1 _ Q q => ⟨x, y, rfl, rfl, sz_of h, q H1 (Ex.refl H1)⟩
/-- the law's words are names -/
structure WordOk (z : Str) : Prop where
  nm : nameS z = true
  len : z.length ≤ 8
  ok : PyData.strOk z = true
def wordB (z : Str) : Bool := nameS z && decide (z.length ≤ 8) && PyData.strOk z
theorem wordB_ok {z : Str} (h : wordB z = true) : WordOk z := by
  unfold wordB at h
  obtain ⟨h, h3⟩ := Bool.and_eq_true_iff.mp h
  obtain ⟨h1, h2⟩ := Bool.and_eq_true_iff.mp h
  exact ⟨h1, of_decide_eq_true h2, h3⟩
theorem w_1 : ∀ c ∈ lettersS.cps.toList, wordB ⟨#[c]⟩ = true := by decide +kernel
theorem dig_no : ∀ e ∈ digitsS.cps.toList, signOk e = true ∧ e < 0x110000 ∧ e ∉ lettersS.cps.toList := by decide +kernel
theorem let_no : ∀ c ∈ lettersS.cps.toList, signOk c = true ∧ c < 0x110000 := by decide +kernel
theorem res_let : ∀ v ∈ reservedV, (match v with | .str w => w.cps.toList.all (fun c => decide (c ∈ lettersS.cps.toList)) | _ => false) = true := by
  unfold reservedV
  intro v hv
  simp only [List.mem_cons, List.not_mem_nil, or_false] at hv
  rcases hv with rfl | rfl | rfl | rfl | rfl | rfl | rfl | rfl | rfl | rfl | rfl
  all_goals decide +kernel
/-- a text with a sign that is no letter is no reserved word -/
theorem not_res {z : Str} {e : Nat} (he : e ∈ z.cps.toList) (hn : e ∉ lettersS.cps.toList) : inV (.str z) reservedV = false := by
  refine Bool.eq_false_iff.mpr fun h => ?_
  unfold inV at h
  obtain ⟨y, hy, hq⟩ := List.any_eq_true.mp h
  have hl := res_let y hy
  cases y with
  | str w =>
    have hw : w = z := eq_of_beq (show (w == z) = true from hq)
    subst hw
    exact hn (of_decide_eq_true (List.all_eq_true.mp hl e he))
  | _ => cases hl
theorem w_3 : ∀ c ∈ lettersS.cps.toList, ∀ d ∈ lettersS.cps.toList, ∀ e ∈ digitsS.cps.toList, wordB ((⟨#[c]⟩ : Str) ++ (⟨#[d]⟩ : Str) ++ (⟨#[e]⟩ : Str)) = true := fun c hc d hd e he => by
  show wordB ⟨#[c, d, e]⟩ = true
  obtain ⟨e1, e2, e3⟩ := dig_no e he
  obtain ⟨c1, c2⟩ := let_no c hc
  obtain ⟨d1, d2⟩ := let_no d hd
  have hr : inV (.str ⟨#[c, d, e]⟩) reservedV = false := not_res (e := e) (by simp) e3
  have hn : nameS ⟨#[c, d, e]⟩ = true := by
    unfold nameS
    rw [hr]
    show (decide (1 ≤ 3) && decide (3 ≤ 8) && decide (c ∈ lettersS.cps.toList) && !false && (signOk c && (signOk d && (signOk e && true)))) = true
    rw [decide_eq_true hc, c1, d1, e1]
    rfl
  have hs : PyData.strOk ⟨#[c, d, e]⟩ = true := by
    show (#[c, d, e] : Array Nat).all (· < 0x110000) = true
    simp [c2, d2, e2]
  unfold wordB
  rw [hn, hs]
  rfl
theorem w_8 : ∀ c ∈ lettersS.cps.toList, ∀ e ∈ digitsS.cps.toList, wordB (Txt.mul (⟨#[c]⟩ : Str) 7 ++ (⟨#[e]⟩ : Str)) = true := by decide +kernel
def spWord : Sp := fun vs H Q _ => ∃ d : Int, vs = [.int d] ∧ ∀ z, WordOk z → RetV (.str z) H Q
end Fs

set_option Elab.async false
set_option linter.all false
set_option maxRecDepth 100000
set_option maxHeartbeats 8000000
namespace Fs
open PySem L2 Evl FsE FsC FsR FsT FsK
theorem r_call {σ : L2.St} {H : Hp} {ta : TA} {vs : List V} {sp : Sp} {E : L2.St → XK} {D : Ends} (h : EvA ta σ H vs) (k : ∀ H1, Ex H H1 → sp vs H1 D.rt (E σ)) : tRet (tCallS sp E ta) D σ H := h H (Ex.refl H) _ fun H1 e1 => k H1 e1
theorem row_getN {row : List Int} {n i : Nat} (hl : row.length = n) (hr : RowOk row) (hi : i < n) : ∃ v, atI (row.map V.int) (i : Int) = some (.int v) ∧ 0 ≤ v ∧ v < 1000 := by
  have h : i < row.length := by omega
  refine ⟨row[i], atI_nat (by rw [List.getElem?_map, List.getElem?_eq_getElem h]; rfl), ?_⟩
  exact hr _ (List.getElem_mem h)
/-- an operand that is allowed -/
def OpdOk : Opd → Prop
  | .int i => -(10 ^ 30) < i ∧ i < 10 ^ 30
  | .nm z => WordOk z
theorem opdOk_v {o : Opd} (h : OpdOk o) : operandV o.v = true := by
  cases o with
  | int i =>
    show (decide (-(10 ^ 30) < i) && decide (i < 10 ^ 30) || false) = true
    rw [decide_eq_true h.1, decide_eq_true h.2]
    rfl
  | nm z =>
    show (false || nameS z) = true
    rw [Bool.false_or]
    exact h.nm
theorem opdOk_ok {o : Opd} (h : OpdOk o) : o.ok := by
  cases o with
  | int i => exact True.intro
  | nm z =>
    show z.length ≤ 40000
    have := h.len
    omega
def spWordX : Sp := fun vs H Q _ => ∃ d : Int, vs = [.int d] ∧ ∀ z, WordOk z → (d / 26 % 3 = 0 → ∃ c ∈ lettersS.cps.toList, z = ⟨#[c]⟩) → RetV (.str z) H Q
def spOperand : Sp := fun vs H Q _ => ∃ d : Int, vs = [.int d] ∧ 0 ≤ d ∧ d < 1000 ∧ ∀ o, OpdOk o → RetV o.v H Q
theorem bigL {x : V} {i : Int} (h0 : 0 ≤ i) (h1 : i < 1000) (h : x ∈ [V.int ((10 : Int) ^ (30 : Int).toNat - 1), .int (1 - (10 : Int) ^ (30 : Int).toNat), .int ((10 : Int) ^ (29 : Int).toNat), .int 0, .int (100 - i)]) : ∃ o : Opd, x = o.v ∧ OpdOk o := by
  simp only [List.mem_cons, List.not_mem_nil, or_false] at h
  rcases h with h | h | h | h | h
  · exact ⟨.int _, h, by decide, by decide⟩
  · exact ⟨.int _, h, by decide, by decide⟩
  · exact ⟨.int _, h, by decide, by decide⟩
  · exact ⟨.int _, h, by decide, by decide⟩
  · refine ⟨.int _, h, ?_, ?_⟩ <;> omega
section
variable {P : Program} {w : World} {K : PySem.W.Frag} {mg : Str → Option Value} {base : Heap} {C CB : Addr}
theorem scWord : FnScope ["_law_draw", "_law_letters", "_law_word_here"] ["_law_draw"] (defScope (topS 51)) := ⟨rfl, rfl, rfl, by decide +kernel, rfl, by decide +kernel, by decide +kernel⟩
theorem ok_word {f : Addr} {fd : FuncData} (F : Fun K "_law_word" "_law_word" (topS 51) f fd) (L : LawT K mg) : FnOk P w K mg base CX0 1 f fd ["_law_draw"] spWordX := by
  refine F.ok scWord (fun vs H Q E h => ?_) (fun cdv A outer s H vs Q E hr h => ?_)
  · obtain ⟨d, rfl, _⟩ := h
    rfl
  · obtain ⟨d, rfl, q⟩ := h
    refine ⟨_, pss_cons (ps_set (i := 1) scWord.nd rfl (Or.inl rfl) pe_str)
      (pss_cons (ps_set (i := 2) scWord.nd rfl (Or.inl rfl) (pe_ix ix_str (pv 1) (pe_op op_mod (pe_callTy call_int1 (by rfl) L.int (by decide +kernel) (pa_cons (pv 0) pa_nil)) pe_int) (fun _ _ => rfl)))
      (pss_cut (ps_if (pt_cmpR op_eq (pe_op op_mod (pe_op op_fdiv (pv 0) pe_int) pe_int) pe_int (nomark _)) (pss_one (ps_set (i := 2) scWord.nd rfl (Or.inl rfl) (pe_op op_add_str (pe_op op_add_str (pv 2) (pe_ix ix_str (pv 1) (pe_op op_mod (pe_op op_fdiv (pv 0) pe_int) pe_int) (fun _ _ => rfl))) (pe_ix ix_str pe_str (pe_op op_mod (pe_op op_fdiv (pv 0) pe_int) pe_int) (fun _ _ => rfl)))))
        (pss_one (ps_if (pt_cmpR op_eq (pe_op op_mod (pe_op op_fdiv (pv 0) pe_int) pe_int) pe_int (nomark _)) (pss_one (ps_set (i := 2) scWord.nd rfl (Or.inl rfl) (pe_op op_add_str (pe_op op_mulS (pv 2) pe_int) (pe_ix ix_str pe_str (pe_op op_mod (pe_op op_fdiv (pv 0) pe_int) pe_int) (fun _ _ => rfl))))) pss_nil)))
      (pss_one (ps_ret (pv 2))))), ?_⟩
    have hlS : lettersS.length ≤ 100000 := by decide +kernel
    have hdS : digitsS.length ≤ 100000 := by decide +kernel
    obtain ⟨c, mc, ac⟩ := at_of (xs := lettersS.cps.toList) (i := d % 26) (Int.emod_nonneg _ (by decide)) (Int.emod_lt_of_pos _ (by decide))
    obtain ⟨c2, mc2, ac2⟩ := at_of (xs := lettersS.cps.toList) (i := d / 78 % 13) (Int.emod_nonneg _ (by decide)) (by have := Int.emod_lt_of_pos (d / 78) (b := 13) (by decide); show _ < ((26 : Nat) : Int); omega)
    obtain ⟨e, me, ae⟩ := at_of (xs := digitsS.cps.toList) (i := d / 78 % 10) (Int.emod_nonneg _ (by decide)) (Int.emod_lt_of_pos _ (by decide))
    refine q_asg (v := .str lettersS) ev_c (fun H1 e1 => ?_)
    refine q_asg (v := .str ⟨#[c]⟩) (ev_op (y := .int (d % 26)) (ev_var rfl) (ev_op (x := .int d) (ev_cb (ea_cons (ev_var rfl) ea_nil) (rc_int (K := K))) ev_c (rv_I (by decide))) (rv_ixS hlS ac)) (fun H2 e2 => ?_)
    have x2 := e1.trans e2
    refine q_cut (M := fun σ' H' => ∃ z : Str, σ' = [some (.int d), some (.str lettersS), some (.str z)] ∧ Ex H H' ∧ WordOk z ∧ (d / 26 % 3 = 0 → ∃ c ∈ lettersS.cps.toList, z = ⟨#[c]⟩)) ?_ (fun σ' H' ⟨z, hσ, he, hz, hs⟩ => ?_)
    · refine s_if (b := decide (V.int (d / 26 % 3) = V.int 1)) (et_test (ev_op (x := .int (d / 26 % 3)) (ev_op (x := .int (d / 26)) (ev_op (x := .int d) (y := .int 26) (ev_var rfl) ev_c (rv_I ⟨by decide, by decide⟩)) ev_c (rv_I (by decide))) ev_c (rv_eq rfl))) (fun hb H3 e3 => ?_) (fun hb H3 e3 => ?_)
      · have h1 : d / 26 % 3 = 1 := V.int.inj (of_decide_eq_true hb)
        refine s_asg (v := .str ((⟨#[c]⟩ : Str) ++ (⟨#[c2]⟩ : Str) ++ (⟨#[e]⟩ : Str))) (ev_op (x := .str ((⟨#[c]⟩ : Str) ++ (⟨#[c2]⟩ : Str))) (ev_op (y := .str ⟨#[c2]⟩) (ev_var rfl) (ev_op (y := .int (d / 78 % 13)) (ev_var rfl) (ev_op (x := .int (d / 78)) (ev_op (x := .int d) (y := .int 78) (ev_var rfl) ev_c (rv_I ⟨by decide, by decide⟩)) ev_c (rv_I (by decide))) (rv_ixS hlS ac2)) (rv_cat (by show 1 + 1 ≤ 100000; decide)))
          (ev_op (x := .str digitsS) (y := .int (d / 78 % 10)) ev_c (ev_op (x := .int (d / 78)) (ev_op (x := .int d) (y := .int 78) (ev_var rfl) ev_c (rv_I ⟨by decide, by decide⟩)) ev_c (rv_I (by decide))) (rv_ixS hdS ae)) (rv_cat (by show 2 + 1 ≤ 100000; decide))) (fun H4 e4 => ⟨_, rfl, (x2.trans e3).trans e4, wordB_ok (w_3 c mc c2 mc2 e me), fun z => absurd (h1.symm.trans z) (by decide)⟩)
      · refine s_when (b := decide (V.int (d / 26 % 3) = V.int 2)) (et_test (ev_op (x := .int (d / 26 % 3)) (ev_op (x := .int (d / 26)) (ev_op (x := .int d) (y := .int 26) (ev_var rfl) ev_c (rv_I ⟨by decide, by decide⟩)) ev_c (rv_I (by decide))) ev_c (rv_eq rfl))) (fun hb2 H4 e4 => ?_) (fun hb2 H4 e4 => ?_)
        · have h2 : d / 26 % 3 = 2 := V.int.inj (of_decide_eq_true hb2)
          have hm : MulOk (⟨#[c]⟩ : Str) 7 := ⟨by decide, fun _ _ => by show ¬ ((1 : Nat) : Int) > (2 ^ 63 - 1) / 7; decide, fun _ _ => by show decide (1 * 7 > sizeLine) = false; rw [sizeLine_eq]; decide⟩
          have hml : (Txt.mul (⟨#[c]⟩ : Str) 7).length = 7 := rfl
          refine s_asg (v := .str (Txt.mul (⟨#[c]⟩ : Str) 7 ++ (⟨#[e]⟩ : Str))) (ev_op (x := .str (Txt.mul (⟨#[c]⟩ : Str) 7)) (ev_op (x := .str ⟨#[c]⟩) (y := .int 7) (ev_var rfl) ev_c (fun H5 _ Q' q' => ⟨_, 7, rfl, rfl, hm, q' H5 (Ex.refl H5)⟩))
            (ev_op (x := .str digitsS) (y := .int (d / 78 % 10)) ev_c (ev_op (x := .int (d / 78)) (ev_op (x := .int d) (y := .int 78) (ev_var rfl) ev_c (rv_I ⟨by decide, by decide⟩)) ev_c (rv_I (by decide))) (rv_ixS hdS ae)) (rv_cat (by rw [hml]; show 7 + 1 ≤ 100000; decide))) (fun H5 e5 => ⟨_, rfl, ((x2.trans e3).trans e4).trans e5, wordB_ok (w_8 c mc e me), fun z => absurd (h2.symm.trans z) (by decide)⟩)
        · exact ⟨_, rfl, (x2.trans e3).trans e4, wordB_ok (w_1 c mc), fun _ => ⟨c, mc, rfl⟩⟩
    · subst hσ
      exact s_ret (ev_var rfl) (fun H3 e3 => q z hz hs H3 (he.trans e3))
theorem scLOperand : FnScope ["_law_draw", "_law_way"] ["_law_draw"] (defScope (topS 52)) := ⟨rfl, rfl, rfl, by decide +kernel, rfl, by decide +kernel, by decide +kernel⟩
theorem ok_loperand {f : Addr} {fd : FuncData} (F : Fun K "_law_operand" "_law_operand" (topS 52) f fd) (L : LawT K mg) (GW : CalX P w K mg base CX0 1 "_law_word" spWordX) : FnOk P w K mg base CX0 2 f fd ["_law_draw"] spOperand := by
  refine F.ok scLOperand (fun vs H Q E h => ?_) (fun cdv A outer s H vs Q E hr h => ?_)
  · obtain ⟨d, rfl, _⟩ := h
    rfl
  · obtain ⟨d, rfl, d0, d1, q⟩ := h
    refine ⟨_, pss_cons (ps_set (i := 1) scLOperand.nd rfl (Or.inl rfl) (pe_op op_fdiv (pv 0) pe_int))
      (pss_cons (ps_if (pt_cmpR op_lt (pe_op op_mod (pe_callTy call_int1 (by rfl) L.int (by decide +kernel) (pa_cons (pv 0) pa_nil)) pe_int) pe_int (nomark _)) (pss_one (ps_ret (pe_op op_sub (pe_op op_mod (pe_callTy call_int1 (by rfl) L.int (by decide +kernel) (pa_cons (pv 1) pa_nil)) pe_int) pe_int))) pss_nil)
      (pss_cons (ps_if (pt_cmpR op_eq (pe_op op_mod (pe_callTy call_int1 (by rfl) L.int (by decide +kernel) (pa_cons (pv 0) pa_nil)) pe_int) pe_int (nomark _)) (pss_one (ps_ret (pe_ix ix_list (pe_lst (pa_cons (pe_op op_sub (pe_op op_pow pe_int pe_int) pe_int) (pa_cons (pe_op op_sub pe_int (pe_op op_pow pe_int pe_int)) (pa_cons (pe_op op_pow pe_int pe_int) (pa_cons pe_int (pa_cons (pe_op op_sub pe_int (pv 1)) pa_nil))))))
          (pe_op op_mod (pe_callTy call_int1 (by rfl) L.int (by decide +kernel) (pa_cons (pv 1) pa_nil)) pe_int) (fun _ _ => rfl)))) pss_nil)
      (pss_one (ps_ret (pe_cx (E := fun _ => E0) GW hr (by omega) (by rfl) at0 (pa_cons (pe_op op_add (pe_op op_mul (pv 1) pe_int) (pe_op op_mod (pe_callTy call_int1 (by rfl) L.int (by decide +kernel) (pa_cons (pv 0) pa_nil)) pe_int)) pa_nil)))))), ?_⟩
    refine q_asg (v := .int (d / 5)) (ev_op (x := .int d) (y := .int 5) (ev_var rfl) ev_c (rv_I ⟨by decide, by decide⟩)) (fun H1 e1 => ?_)
    have hw0 : 0 ≤ d / 5 := by omega
    have hw1 : d / 5 < 1000 := by omega
    generalize hw : d / 5 = wy at hw0 hw1
    refine q_when (b := decide (d % 5 < 2)) (et_test (ev_op (x := .int (d % 5)) (ev_op (x := .int d) (ev_cb (ea_cons (ev_var rfl) ea_nil) (rc_int (K := K))) ev_c (rv_I (by decide))) ev_c rv_I0)) (fun hb H2 e2 => ?_) (fun hb H2 e2 => ?_)
    · have m0 := Int.emod_nonneg wy (b := 19) (by decide)
      have m1 := Int.emod_lt_of_pos wy (b := 19) (by decide)
      exact s_ret (v := .int (wy % 19 - 9)) (ev_op (x := .int (wy % 19)) (ev_op (x := .int wy) (ev_cb (ea_cons (ev_var rfl) ea_nil) (rc_int (K := K))) ev_c (rv_I (by decide))) ev_c rv_I0) (fun H3 e3 => q (.int (wy % 19 - 9)) ⟨by omega, by omega⟩ H3 ((e1.trans e2).trans e3))
    have x2 := e1.trans e2
    refine q_when (b := decide (V.int (d % 5) = V.int 2)) (et_test (ev_op (x := .int (d % 5)) (ev_op (x := .int d) (ev_cb (ea_cons (ev_var rfl) ea_nil) (rc_int (K := K))) ev_c (rv_I (by decide))) ev_c (rv_eq rfl))) (fun hb2 H3 e3 => ?_) (fun hb2 H3 e3 => ?_)
    · obtain ⟨x, hx, hat⟩ := at_of (xs := [V.int ((10 : Int) ^ (30 : Int).toNat - 1), .int (1 - (10 : Int) ^ (30 : Int).toNat), .int ((10 : Int) ^ (29 : Int).toNat), .int 0, .int (100 - wy)]) (i := wy % 5) (Int.emod_nonneg _ (by decide)) (Int.emod_lt_of_pos _ (by decide))
      obtain ⟨o, rfl, ho⟩ := bigL hw0 hw1 hx
      exact s_ret (v := o.v) (ev_opL1 (xs := [V.int ((10 : Int) ^ (30 : Int).toNat - 1), .int (1 - (10 : Int) ^ (30 : Int).toNat), .int ((10 : Int) ^ (29 : Int).toNat), .int 0, .int (100 - wy)]) (y := .int (wy % 5))
        (el_lst (ea_cons (ev_op (ev_op ev_c ev_c (rv_I ⟨by decide, by decide, by decide⟩)) ev_c rv_I0) (ea_cons (ev_op ev_c (ev_op ev_c ev_c (rv_I ⟨by decide, by decide, by decide⟩)) rv_I0) (ea_cons (ev_op ev_c ev_c (rv_I ⟨by decide, by decide, by decide⟩)) (ea_cons ev_c (ea_cons (ev_op ev_c (ev_var rfl) rv_I0) ea_nil))))) (by show 5 ≤ 100000; decide))
        (fun H4 e4 => ev_op (x := .int wy) (ev_cb (ea_cons (ev_var rfl) ea_nil) (rc_int (K := K))) ev_c (rv_I (by decide))) (fun p H4 hp e4 => rv_ixL (sq_of hp) hat)) (fun H4 e4 => q o ho H4 ((x2.trans e3).trans e4))
    · have cm : CMul wy 5 := .inr ⟨by decide, by decide⟩
      exact r_call (vs := [.int (wy * 5 + d % 5)]) (ea_cons (ev_op (ev_op (x := .int wy) (y := .int 5) (ev_var rfl) ev_c (rv_I cm)) (ev_op (x := .int d) (ev_cb (ea_cons (ev_var rfl) ea_nil) (rc_int (K := K))) ev_c (rv_I (by decide))) rv_I0) ea_nil) (fun H4 e4 => ⟨_, rfl, fun z hz _ H5 e5 => q (.nm z) hz H5 (((x2.trans e3).trans e4).trans e5)⟩)
end
end Fs

set_option Elab.async false
set_option linter.all false
set_option maxRecDepth 100000
set_option maxHeartbeats 8000000
namespace Fs
open PySem L2 Evl FsE FsC FsR FsT FsK
/-- an offer that is allowed, but for its rest -/
structure OfOk (ch : Str) (s m : Int) (op : Opd) (ns : List Str) : Prop where
  ch : WordOk ch
  m1 : 1 ≤ m
  m4 : m ≤ 4
  s0 : 0 ≤ s
  s1 : s < m
  op : OpdOk op
  nl : (ns.length : Int) = m - 1
  nd : namesS ns = true
  nz : ∀ y ∈ ns, y.length ≤ 8 ∧ PyData.strOk y = true
def nmX (c d : Nat) : Str := (⟨#[c]⟩ : Str) ++ (⟨#[d]⟩ : Str)
def rotN (c : Nat) (t : Nat) : List Str := [nmX c 48, nmX c 49, nmX c 50].drop t ++ [nmX c 48, nmX c 49, nmX c 50].take t
theorem rot_ok : ∀ c ∈ lettersS.cps.toList, ∀ t ∈ [0, 1, 2], ∀ j ∈ [0, 1, 2, 3], namesS ((rotN c t).take j) = true := by decide +kernel
theorem rot_len {c t j : Nat} (ht : t ≤ 2) (hj : j ≤ 3) : ((rotN c t).take j).length = j := by
  unfold rotN
  rw [List.length_take, List.length_append, List.length_drop, List.length_take]
  show min j ((3 - t) + min t 3) = j
  omega
theorem nm_ok : ∀ c ∈ lettersS.cps.toList, ∀ d ∈ [48, 49, 50], (nmX c d).length ≤ 8 ∧ PyData.strOk (nmX c d) = true := by decide +kernel
theorem rot_mem {c t j : Nat} {y : Str} (h : y ∈ (rotN c t).take j) : ∃ d ∈ [48, 49, 50], y = nmX c d := by
  have h' := List.mem_of_mem_take h
  unfold rotN at h'
  have h2 : y ∈ [nmX c 48, nmX c 49, nmX c 50] := by
    rcases List.mem_append.mp h' with h' | h'
    · exact List.mem_of_mem_drop h'
    · exact List.mem_of_mem_take h'
  rcases List.mem_cons.mp h2 with rfl | h2
  · exact ⟨48, by decide, rfl⟩
  rcases List.mem_cons.mp h2 with rfl | h2
  · exact ⟨49, by decide, rfl⟩
  rcases List.mem_cons.mp h2 with rfl | h2
  · exact ⟨50, by decide, rfl⟩
  · cases h2
theorem rot_cut {c t : Nat} (ht : t ≤ 2) : cutV [.str (nmX c 48), .str (nmX c 49), .str (nmX c 50)] (some (t : Int)) none ++ cutV [.str (nmX c 48), .str (nmX c 49), .str (nmX c 50)] none (some (t : Int)) = (rotN c t).map V.str := by
  have : t = 0 ∨ t = 1 ∨ t = 2 := by omega
  rcases this with rfl | rfl | rfl <;> rfl
theorem take_cut {c t j : Nat} (ht : t ≤ 2) (hj : j ≤ 3) : cutV ((rotN c t).map V.str) none (some (j : Int)) = ((rotN c t).take j).map V.str := by
  have h1 : t = 0 ∨ t = 1 ∨ t = 2 := by omega
  have h2 : j = 0 ∨ j = 1 ∨ j = 2 ∨ j = 3 := by omega
  rcases h1 with rfl | rfl | rfl <;> rcases h2 with rfl | rfl | rfl | rfl <;> rfl
def spLOffer : Sp := fun vs H Q _ => ∃ (rl : Addr) (row : List Int) (k : Nat) (b : Addr), vs = [.ref rl, .int (k : Int), .ref b] ∧ H rl = some (.lst (row.map V.int)) ∧ RowOk row ∧ k + 3 < row.length ∧ k ≤ 1000 ∧
  ∀ ch s m op ns o u H', H o = none → H u = none → Ex H H' → H' o = some (.tup [.str ch, .int s, .int m, Opd.v op, .ref u, .ref b]) → H' u = some (.lst (ns.map V.str)) → OfOk ch s m op ns → Q (.ref o) H'
theorem el_is {σ : L2.St} {H : Hp} {te : TE} {xs ys : List V} (h : EvL te σ H xs) (e : xs = ys) : EvL te σ H ys := e ▸ h
section
variable {σ : L2.St} {H : Hp} {ta tb : TE} {tas : TA} {E : L2.St → XK}
theorem el_catLL {xs ys : List V} (ha : EvL ta σ H xs) (hb : EvL tb σ H ys) (hz : xs.length + ys.length ≤ sizeLine) : EvL (tOp rCat ta tb) σ H (xs ++ ys) := fun H1 e Q q =>
  ha H1 e _ fun l H2 hl e2 h2 => hb H2 (e.trans e2) _ fun p H3 hp e3 h3 => ⟨l, p, xs, ys, rfl, rfl, e3 _ _ h2, h3, hz, fun r hr => q r _ (fresh_back (e2.trans e3) hr) ((e2.trans e3).trans (Ex.new hr)) upd_same⟩
theorem es_word {d : Int} (h : EvA tas σ H [.int d]) : EvS (tCallS spWordX E tas) σ H (fun v _ => ∃ z, v = .str z ∧ WordOk z ∧ (d / 26 % 3 = 0 → ∃ c ∈ lettersS.cps.toList, z = ⟨#[c]⟩)) := fun H1 e1 Q q =>
  h H1 e1 _ fun H2 e2 => ⟨d, rfl, fun z hz hs H3 e3 => q (.str z) H3 (e2.trans e3) ⟨z, rfl, hz, hs⟩⟩
theorem es_opd {d : Int} (h : EvA tas σ H [.int d]) (d0 : 0 ≤ d) (d1 : d < 1000) : EvS (tCallS spOperand E tas) σ H (fun v _ => ∃ o : Opd, v = o.v ∧ OpdOk o) := fun H1 e1 Q q =>
  h H1 e1 _ fun H2 e2 => ⟨d, rfl, d0, d1, fun o ho H3 e3 => q o.v H3 (e2.trans e3) ⟨o, rfl, ho⟩⟩
end
section
variable {P : Program} {w : World} {K : PySem.W.Frag} {mg : Str → Option Value} {base : Heap} {C CB : Addr}
abbrev nsLOff : List Str := ["_law_row_here", "_law_at", "_law_rest", "_law_seats", "_law_seat", "_law_letter", "_law_names", "_law_turn"]
theorem scLOffer : FnScope nsLOff ["_law_row_here", "_law_at", "_law_rest"] (defScope (topS 53)) := ⟨rfl, rfl, rfl, by decide +kernel, rfl, by decide +kernel, by decide +kernel⟩
theorem ok_loffer {f : Addr} {fd : FuncData} (F : Fun K "_law_offer" "_law_offer" (topS 53) f fd) (L : LawT K mg) (GW : CalX P w K mg base CX0 1 "_law_word" spWordX) (GO : CalX P w K mg base CX0 2 "_law_operand" spOperand) : FnOk P w K mg base CX0 3 f fd ["_law_row_here", "_law_at", "_law_rest"] spLOffer := by
  refine F.ok scLOffer (fun vs H Q E h => ?_) (fun cdv A outer s H vs Q E hr h => ?_)
  · obtain ⟨rl, row, k, b, rfl, _⟩ := h
    rfl
  · obtain ⟨rl, row, k, b, rfl, hrl, hrow, hlen, hk, q⟩ := h
    refine ⟨_, pss_cons (ps_set (i := 3) scLOffer.nd rfl (Or.inl rfl) (pe_op op_add pe_int (pe_op op_mod (pe_callTy call_int1 (by rfl) L.int (by decide +kernel) (pa_cons (pe_ix ix_list (pv 0) (pe_op op_add (pv 1) pe_int) (fun _ _ => rfl)) pa_nil)) pe_int)))
      (pss_cons (ps_set (i := 4) scLOffer.nd rfl (Or.inl rfl) (pe_op op_mod (pe_op op_fdiv (pe_ix ix_list (pv 0) (pe_op op_add (pv 1) pe_int) (fun _ _ => rfl)) pe_int) (pv 3)))
      (pss_cons (ps_set (i := 5) scLOffer.nd rfl (Or.inl rfl) (pe_cx (E := fun _ => E0) GW hr (by omega) (by rfl) at0 (pa_cons (pe_op op_mod (pe_callTy call_int1 (by rfl) L.int (by decide +kernel) (pa_cons (pe_ix ix_list (pv 0) (pe_op op_add (pv 1) pe_int) (fun _ _ => rfl)) pa_nil)) pe_int) pa_nil)))
      (pss_cons (ps_set (i := 6) scLOffer.nd rfl (Or.inl rfl) (pe_lst (pa_cons (pe_op op_add_str (pv 5) pe_str) (pa_cons (pe_op op_add_str (pv 5) pe_str) (pa_cons (pe_op op_add_str (pv 5) pe_str) pa_nil)))))
      (pss_cons (ps_set (i := 7) scLOffer.nd rfl (Or.inl rfl) (pe_op op_mod (pe_op op_fdiv (pe_ix ix_list (pv 0) (pe_op op_add (pv 1) pe_int) (fun _ _ => rfl)) pe_int) pe_int))
      (pss_cons (ps_set (i := 6) scLOffer.nd rfl (Or.inl rfl) (pe_op op_cat (pe_slice sl_list (pv 6) (po_some (pv 7)) po_none) (pe_slice sl_list (pv 6) po_none (po_some (pv 7)))))
      (pss_one (ps_ret (pe_tup (pa_cons (pe_cx (E := fun _ => E0) GW hr (by omega) (by rfl) at0 (pa_cons (pe_ix ix_list (pv 0) (pv 1) (fun _ _ => rfl)) pa_nil)) (pa_cons (pv 4) (pa_cons (pv 3) (pa_cons (pe_cx (E := fun _ => E0) GO hr (by omega) (by rfl) at0 (pa_cons (pe_ix ix_list (pv 0) (pe_op op_add (pv 1) pe_int) (fun _ _ => rfl)) pa_nil))
        (pa_cons (pe_slice sl_list (pv 6) po_none (po_some (pe_op op_sub (pv 3) pe_int))) (pa_cons (pv 2) pa_nil)))))))))))))), ?_⟩
    obtain ⟨y0, g0, b00, c0⟩ := row_getN rfl hrow (i := k) (by omega)
    obtain ⟨y1, g1, b1, c1⟩ := row_getN rfl hrow (i := k + 1) (by omega)
    obtain ⟨y2, g2, b2, c2⟩ := row_getN rfl hrow (i := k + 2) (by omega)
    obtain ⟨y3, g3, b3, c3⟩ := row_getN rfl hrow (i := k + 3) (by omega)
    rw [show ((k + 1 : Nat) : Int) = (k : Int) + 1 by omega] at g1
    rw [show ((k + 2 : Nat) : Int) = (k : Int) + 2 by omega] at g2
    rw [show ((k + 3 : Nat) : Int) = (k : Int) + 3 by omega] at g3
    have ix : ∀ {j y : Int} {H9 : Hp} {σ9 : L2.St}, Ex H H9 → σ9[0]? = some (some (.ref rl)) → σ9[1]? = some (some (.int (k : Int))) → atI (row.map V.int) ((k : Int) + j) = some (.int y) → Ev (tOp (rIxL K) (tVar 0) (tOp (rI0 fun i j => .int (i + j)) (tVar 1) (tC (.int j)))) σ9 H9 (.int y) :=
      fun e9 s0 s1 g => ev_op (ev_var s0) (ev_op (ev_var s1) ev_c rv_I0) (rv_ixL (sq_of (e9 _ _ hrl)) g)
    obtain ⟨j, hj, hj3⟩ : ∃ j : Nat, y1 % 4 = (j : Int) ∧ j ≤ 3 := ⟨(y1 % 4).toNat, by omega, by omega⟩
    obtain ⟨t, ht, ht2⟩ : ∃ t : Nat, y3 / 26 % 3 = (t : Int) ∧ t ≤ 2 := ⟨(y3 / 26 % 3).toNat, by omega, by omega⟩
    refine q_asg (v := .int (1 + (j : Int))) (ev_is (ev_op ev_c (ev_op (x := .int y1) (ev_cb (ea_cons (ix (Ex.refl H) rfl rfl g1) ea_nil) (rc_int (K := K))) ev_c (rv_I (by decide))) rv_I0) (by rw [hj])) (fun H1 e1 => ?_)
    have s0 := Int.emod_nonneg (y1 / 4) (b := 1 + (j : Int)) (by omega)
    have s1 := Int.emod_lt_of_pos (y1 / 4) (b := 1 + (j : Int)) (by omega)
    refine q_asg (v := .int (y1 / 4 % (1 + (j : Int)))) (ev_op (x := .int (y1 / 4)) (ev_op (x := .int y1) (y := .int 4) (ix e1 rfl rfl g1) ev_c (rv_I ⟨by decide, by decide⟩)) (ev_var rfl) (rv_I (show (0 : Int) < 1 + (j : Int) by omega))) (fun H2 e2 => ?_)
    have x2 := e1.trans e2
    refine q_asgS (es_word (d := y3 % 26) (ea_cons (ev_op (x := .int y3) (ev_cb (ea_cons (ix x2 rfl rfl g3) ea_nil) (rc_int (K := K))) ev_c (rv_I (by decide))) ea_nil)) (fun v H3 e3 ⟨z, hv, hz, hs⟩ => ?_)
    subst hv
    obtain ⟨c, mc, rfl⟩ := hs (by omega)
    have x3 := x2.trans e3
    refine q_asgL (xs := [.str (nmX c 48), .str (nmX c 49), .str (nmX c 50)]) (el_lst (ea_cons (ev_op (x := .str ⟨#[c]⟩) (y := .str ("0" : Str)) (ev_var rfl) ev_c (rv_cat (by show 1 + 1 ≤ 100000; decide))) (ea_cons (ev_op (x := .str ⟨#[c]⟩) (y := .str ("1" : Str)) (ev_var rfl) ev_c (rv_cat (by show 1 + 1 ≤ 100000; decide))) (ea_cons (ev_op (x := .str ⟨#[c]⟩) (y := .str ("2" : Str)) (ev_var rfl) ev_c (rv_cat (by show 1 + 1 ≤ 100000; decide))) ea_nil))) (by show 3 ≤ 100000; decide)) (fun u0 H4 hu0 e4 h4 => ?_)
    have x4 := x3.trans e4
    refine q_asg (v := .int (t : Int)) (ev_is (ev_op (x := .int (y3 / 26)) (ev_op (x := .int y3) (y := .int 26) (ix x4 rfl rfl g3) ev_c (rv_I ⟨by decide, by decide⟩)) ev_c (rv_I (by decide))) (by rw [ht])) (fun H5 e5 => ?_)
    have x5 := x4.trans e5
    refine q_asgL (xs := (rotN c t).map V.str) (el_is (el_catLL (el_sl (ev_var rfl) (eo_some (ev_var rfl)) eo_none (sq_of (e5 _ _ h4))) (el_sl (ev_var rfl) eo_none (eo_some (ev_var rfl)) (sq_of (e5 _ _ h4))) (by
      have l1 := cutV_length [.str (nmX c 48), .str (nmX c 49), .str (nmX c 50)] (some (t : Int)) none
      have l2 := cutV_length [.str (nmX c 48), .str (nmX c 49), .str (nmX c 50)] none (some (t : Int))
      rw [sizeLine_eq]
      have l3 : [V.str (nmX c 48), .str (nmX c 49), .str (nmX c 50)].length = 3 := rfl
      omega)) (rot_cut ht2)) (fun u H6 hu e6 h6 => ?_)
    have x6 := x5.trans e6
    refine es_word (E := fun _ => E0) (σ := [some (.ref rl), some (.int (k : Int)), some (.ref b), some (.int (1 + (j : Int))), some (.int (y1 / 4 % (1 + (j : Int)))), some (.str ⟨#[c]⟩), some (.ref u), some (.int (t : Int))]) (d := y0) (ea_cons (ev_op (ev_var rfl) (ev_var rfl) (rv_ixL (sq_of (x6 _ _ hrl)) g0)) ea_nil) H6 (Ex.refl H6) _ (fun v7 H7 e7 ⟨ch, hv7, hch, _⟩ => ?_)
    subst hv7
    refine ⟨_, rfl, _, rfl, ?_⟩
    refine es_opd (E := fun _ => E0) (σ := [some (.ref rl), some (.int (k : Int)), some (.ref b), some (.int (1 + (j : Int))), some (.int (y1 / 4 % (1 + (j : Int)))), some (.str ⟨#[c]⟩), some (.ref u), some (.int (t : Int))]) (H := H7) (d := y2) (ea_cons (ix (x6.trans e7) rfl rfl g2) ea_nil) b2 c2 H7 (Ex.refl H7) _ (fun v8 H8 e8 ⟨op, hv8, hop⟩ => ?_)
    subst hv8
    have x8 := (x6.trans e7).trans e8
    have h8 := (e7.trans e8) _ _ h6
    refine el_is (el_sl (K := K) (σ := [some (.ref rl), some (.int (k : Int)), some (.ref b), some (.int (1 + (j : Int))), some (.int (y1 / 4 % (1 + (j : Int)))), some (.str ⟨#[c]⟩), some (.ref u), some (.int (t : Int))]) (H := H8) (lo := none) (hi := some (j : Int)) (ev_var (i := 6) rfl) eo_none (eo_some (ev_is (ev_op (r := rI0 fun i j => .int (i - j)) (ev_var (i := 3) rfl) (ev_c (v := .int 1)) rv_I0) (by show V.int (1 + (j : Int) - 1) = _; rw [show 1 + (j : Int) - 1 = (j : Int) by omega]))) (sq_of h8)) (take_cut ht2 hj3) H8 (Ex.refl H8) _ (fun u9 H9 hu9 e9 h9 => ?_)
    refine ⟨_, rfl, by show 6 ≤ sizeLine; decide, fun o ho => ?_⟩
    have x9 := x8.trans e9
    have mt : t ∈ [0, 1, 2] := by
      have : t = 0 ∨ t = 1 ∨ t = 2 := by omega
      rcases this with rfl | rfl | rfl <;> decide
    have mj : j ∈ [0, 1, 2, 3] := by
      have : j = 0 ∨ j = 1 ∨ j = 2 ∨ j = 3 := by omega
      rcases this with rfl | rfl | rfl | rfl <;> decide
    refine q ch (y1 / 4 % (1 + (j : Int))) (1 + (j : Int)) op ((rotN c t).take j) o u9 _ (fresh_back x9 ho) (fresh_back x8 hu9) (x9.trans (Ex.new ho)) upd_same ((Ex.new ho) _ _ h9) ⟨hch, by omega, by omega, s0, s1, hop, by rw [rot_len ht2 hj3]; omega, rot_ok c mc t mt j mj, fun y hy => ?_⟩
    obtain ⟨dd, hdd, rfl⟩ := rot_mem hy
    exact nm_ok c mc dd hdd
end
end Fs

set_option Elab.async false
set_option linter.all false
set_option maxRecDepth 100000
set_option maxHeartbeats 8000000
namespace Fs
open PySem L2 Evl FsE FsC FsR FsT FsK
mutual
/-- a process as the law writes it down: tuples and lists -/
def TrAt (H : Hp) (a : Addr) : Pr → Prop
  | .choice os => ∃ l xs, H a = some (.tup [.str "choice", .ref l]) ∧ H l = some (.lst xs) ∧ OfsTr H xs os
  | .new n k r => ∃ b, H a = some (.tup [.str "new", .str n, .int k, .ref b]) ∧ TrAt H b r
  | .cond l r y n => ∃ b c, H a = some (.tup [.str "if", l.v, r.v, .ref b, .ref c]) ∧ TrAt H b y ∧ TrAt H c n
  | .call n ops => ∃ u, H a = some (.tup [.str "call", .str n, .ref u]) ∧ H u = some (.lst (ops.map Opd.v))
def OfsTr (H : Hp) (ps : List V) : Ofs → Prop
  | .nil => ps = []
  | .cons c s m op ns r os => ∃ o u b qs, ps = .ref o :: qs ∧ H o = some (.tup [.str c, .int s, .int m, op.v, .ref u, .ref b]) ∧ H u = some (.lst (ns.map V.str)) ∧ TrAt H b r ∧ OfsTr H qs os
end
mutual
theorem TrAt.ex {H H' : Hp} (e : Ex H H') : ∀ {p : Pr} {a : Addr}, TrAt H a p → TrAt H' a p
  | .choice os, a, h => by
    unfold TrAt at h ⊢
    obtain ⟨l, xs, h1, h2, h3⟩ := h
    exact ⟨l, xs, e _ _ h1, e _ _ h2, OfsTr.ex e h3⟩
  | .new n k r, a, h => by
    unfold TrAt at h ⊢
    obtain ⟨b, h1, h2⟩ := h
    exact ⟨b, e _ _ h1, TrAt.ex e h2⟩
  | .cond l r y n, a, h => by
    unfold TrAt at h ⊢
    obtain ⟨b, c, h1, h2, h3⟩ := h
    exact ⟨b, c, e _ _ h1, TrAt.ex e h2, TrAt.ex e h3⟩
  | .call n ops, a, h => by
    unfold TrAt at h ⊢
    obtain ⟨u, h1, h2⟩ := h
    exact ⟨u, e _ _ h1, e _ _ h2⟩
theorem OfsTr.ex {H H' : Hp} (e : Ex H H') : ∀ {os : Ofs} {ps : List V}, OfsTr H ps os → OfsTr H' ps os
  | .nil, ps, h => by
    unfold OfsTr at h ⊢
    exact h
  | .cons c s m op ns r os, ps, h => by
    unfold OfsTr at h ⊢
    obtain ⟨o, u, b, qs, h1, h2, h3, h4, h5⟩ := h
    exact ⟨o, u, b, qs, h1, e _ _ h2, e _ _ h3, TrAt.ex e h4, OfsTr.ex e h5⟩
end
mutual
/-- allowed, but for depth and size -/
def AlP : Pr → Prop
  | .choice os => os.len ≤ 6 ∧ AlO os
  | .new n k r => WordOk n ∧ 1 ≤ k ∧ k ≤ 4 ∧ AlP r
  | .cond l r y n => OpdOk l ∧ OpdOk r ∧ AlP y ∧ AlP n
  | .call n ops => WordOk n ∧ ops.length ≤ 4 ∧ ∀ o ∈ ops, OpdOk o
def AlO : Ofs → Prop
  | .nil => True
  | .cons c s m op ns r os => OfOk c s m op ns ∧ AlP r ∧ AlO os
end
def szB : Nat → Int
  | 0 => 0
  | 1 => 1
  | n + 2 => 2 * (szB (n + 1) + 1)
theorem szB_pos : ∀ n, 1 ≤ szB (n + 1)
  | 0 => by show (1 : Int) ≤ 1; decide
  | n + 1 => by
    have := szB_pos n
    show 1 ≤ 2 * (szB (n + 1) + 1)
    omega
/-- the first node of a level; the leaves are level 1 -/
def lf : Nat → Nat
  | 0 => 15
  | 1 => 7
  | 2 => 3
  | 3 => 1
  | _ => 0
/-- what the law may write at level h -/
structure TrOk (h : Nat) (p : Pr) : Prop where
  al : AlP p
  dep : p.depth ≤ (h : Int)
  siz : p.size ≤ szB h
def spTerm (h : Nat) : Sp := fun vs H Q _ => ∃ (rl : Addr) (row : List Int) (n : Nat), vs = [.ref rl, .int (n : Int)] ∧ H rl = some (.lst (row.map V.int)) ∧ RowOk row ∧ row.length = 135 ∧ 1 ≤ h ∧ h ≤ 4 ∧ lf h ≤ n ∧ n ≤ 2 * lf h ∧
  ∀ a p H', H a = none → Ex H H' → TrAt H' a p → TrOk h p → Q (.ref a) H'
theorem ok_stop1 {h : Nat} (h1 : 1 ≤ h) : TrOk h (.choice .nil) := by
  have hs : 1 ≤ szB h := by
    obtain ⟨k, rfl⟩ : ∃ k, h = k + 1 := ⟨h - 1, by omega⟩
    exact szB_pos k
  refine ⟨?_, ?_, ?_⟩
  · unfold AlP AlO
    exact ⟨by decide, trivial⟩
  · rw [Pr.depth, Ofs.depth]
    omega
  · rw [Pr.size, Ofs.sum]
    show max 1 ((0 : Nat) : Int) + 0 ≤ _
    omega
theorem ok_call1 {h : Nat} (h1 : 1 ≤ h) {z : Str} {ops : List Opd} (hz : WordOk z) (hl : ops.length ≤ 4) (ho : ∀ o ∈ ops, OpdOk o) : TrOk h (.call z ops) := by
  have hs : 1 ≤ szB h := by
    obtain ⟨k, rfl⟩ : ∃ k, h = k + 1 := ⟨h - 1, by omega⟩
    exact szB_pos k
  refine ⟨?_, ?_, ?_⟩
  · unfold AlP
    exact ⟨hz, hl, ho⟩
  · rw [Pr.depth]
    omega
  · rw [Pr.size]
    omega
theorem szB_up {h : Nat} (h1 : 1 ≤ h) : szB (h + 1) = 2 * (szB h + 1) := by
  obtain ⟨k, rfl⟩ : ∃ k, h = k + 1 := ⟨h - 1, by omega⟩
  rfl
theorem ok_new1 {h : Nat} (h1 : 1 ≤ h) {z : Str} {k : Int} {r : Pr} (hz : WordOk z) (k1 : 1 ≤ k) (k4 : k ≤ 4) (hr : TrOk h r) : TrOk (h + 1) (.new z k r) := by
  have e := szB_up h1
  have d := hr.dep
  have s := hr.siz
  have dp := Pr.depth_pos r
  have sz : 1 ≤ szB h := by
    obtain ⟨k, rfl⟩ : ∃ k, h = k + 1 := ⟨h - 1, by omega⟩
    exact szB_pos k
  refine ⟨?_, ?_, ?_⟩
  · unfold AlP
    exact ⟨hz, k1, k4, hr.al⟩
  · rw [Pr.depth]
    omega
  · rw [Pr.size, e]
    omega
theorem ok_cond1 {h : Nat} (h1 : 1 ≤ h) {l r : Opd} {y n : Pr} (hl : OpdOk l) (hr : OpdOk r) (hy : TrOk h y) (hn : TrOk h n) : TrOk (h + 1) (.cond l r y n) := by
  have e := szB_up h1
  have d := hy.dep
  have s := hy.siz
  have d2 := hn.dep
  have s2 := hn.siz
  refine ⟨?_, ?_, ?_⟩
  · unfold AlP
    exact ⟨hl, hr, hy.al, hn.al⟩
  · rw [Pr.depth]
    omega
  · rw [Pr.size, e]
    omega
theorem ok_off1 {h : Nat} (h1 : 1 ≤ h) {c : Str} {s m : Int} {op : Opd} {ns : List Str} {r : Pr} (ho : OfOk c s m op ns) (hr : TrOk h r) : TrOk (h + 1) (.choice (.cons c s m op ns r .nil)) := by
  have e := szB_up h1
  have d := hr.dep
  have s := hr.siz
  have sz : 1 ≤ szB h := by
    obtain ⟨k, rfl⟩ : ∃ k, h = k + 1 := ⟨h - 1, by omega⟩
    exact szB_pos k
  refine ⟨?_, ?_, ?_⟩
  · unfold AlP AlO AlO
    exact ⟨by show 1 ≤ 6; decide, ho, hr.al, trivial⟩
  · rw [Pr.depth, Ofs.depth, Ofs.depth]
    omega
  · rw [Pr.size, Ofs.sum, Ofs.sum, e]
    show max 1 ((1 : Nat) : Int) + (r.size + 0) ≤ _
    omega
theorem ok_off2 {h : Nat} (h1 : 1 ≤ h) {c c' : Str} {s m s' m' : Int} {op op' : Opd} {ns ns' : List Str} {r r' : Pr} (ho : OfOk c s m op ns) (ho' : OfOk c' s' m' op' ns') (hr : TrOk h r) (hr' : TrOk h r') : TrOk (h + 1) (.choice (.cons c s m op ns r (.cons c' s' m' op' ns' r' .nil))) := by
  have e := szB_up h1
  have d := hr.dep
  have s := hr.siz
  have d2 := hr'.dep
  have s2 := hr'.siz
  refine ⟨?_, ?_, ?_⟩
  · unfold AlP AlO AlO AlO
    exact ⟨by show 2 ≤ 6; decide, ho, hr.al, ho', hr'.al, trivial⟩
  · rw [Pr.depth, Ofs.depth, Ofs.depth, Ofs.depth]
    omega
  · rw [Pr.size, Ofs.sum, Ofs.sum, Ofs.sum, e]
    show max 1 ((2 : Nat) : Int) + (r.size + (r'.size + 0)) ≤ _
    omega
section
variable {σ : L2.St} {H : Hp} {ta te : TE} {tas tn : TA} {E : L2.St → XK}
/-- operands drawn one by one -/
theorem es_lcO {j : Nat} {vs : List Nat} {n : Int} (h : EvA tn σ H [.int n]) (hn : 0 ≤ n ∧ n ≤ 100) (hw : ∀ x, wipe ((wipe σ vs).set j (some x)) vs = wipe σ vs)
    (he : ∀ (i : Nat) H1, Ex H H1 → (i : Int) < n → EvS te ((wipe σ vs).set j (some (.int (i : Int)))) H1 (fun v _ => ∃ o : Opd, v = o.v ∧ OpdOk o)) :
    EvS (tLc (iRng1 tn) (gName j) tYes te vs) σ H (fun v H' => ∃ (l : Addr) (ops : List Opd), v = .ref l ∧ H' l = some (.lst (ops.map Opd.v)) ∧ (ops.length : Int) = n ∧ ∀ o ∈ ops, OpdOk o) := fun H0 e0 Q q =>
  h H0 e0 _ fun H1 e1 => ⟨n, rfl, by omega, by omega, fun Dl hD => lc_range (lo := 0) (n := n.toNat) (fun m H' => ∃ ops : List Opd, H' Dl = some (.lst (ops.map Opd.v)) ∧ ops.length = m ∧ (∀ o ∈ ops, OpdOk o) ∧ Ex H1 H') ⟨[], upd_same, rfl, (fun _ z => nomatch z), Ex.new hD⟩
    (fun m H' hm ⟨ops, g1, g2, g3, g4⟩ => by
      have z0 : (0 : Int) + (m : Int) = (m : Int) := Int.zero_add _
      rw [z0]
      refine ⟨hw _, he m H' ((e0.trans e1).trans g4) (by omega) H' (Ex.refl H') _ fun v H4 e4 ⟨o, hv, ho⟩ => ?_⟩
      subst hv
      refine ⟨ops.map Opd.v, e4 _ _ g1, sz_lt (by rw [List.length_map]; omega), ops ++ [o], ?_, by rw [List.length_append, g2]; rfl, fun x hx => ?_, Ex.mut (g4.trans e4) hD⟩
      · rw [List.map_append]
        exact upd_same
      · rcases List.mem_append.mp hx with hx | hx
        · exact g3 x hx
        · rw [List.mem_singleton.mp hx]
          exact ho)
    (fun H' ⟨ops, g1, g2, g3, g4⟩ => q (.ref Dl) H' (e1.trans g4) ⟨Dl, ops, rfl, g1, by omega, g3⟩)⟩
theorem es_term {h : Nat} {rl : Addr} {row : List Int} {n : Nat} (ha : EvA tas σ H [.ref rl, .int (n : Int)]) (hl : H rl = some (.lst (row.map V.int))) (hr : RowOk row) (hz : row.length = 135) (h1 : 1 ≤ h) (h4 : h ≤ 4) (l0 : lf h ≤ n) (l1 : n ≤ 2 * lf h) :
    EvS (tCallS (spTerm h) E tas) σ H (fun v H' => ∃ a p, v = .ref a ∧ TrAt H' a p ∧ TrOk h p) := fun H1 e1 Q q =>
  ha H1 e1 _ fun H2 e2 => ⟨rl, row, n, rfl, (e1.trans e2) _ _ hl, hr, hz, h1, h4, l0, l1, fun a p H3 _ e3 ht hp => q (.ref a) H3 (e2.trans e3) ⟨a, p, rfl, ht, hp⟩⟩
end
end Fs

set_option Elab.async false
set_option linter.all false
set_option maxRecDepth 100000
set_option maxHeartbeats 8000000
namespace Fs
open PySem L2 Evl FsE FsC FsR FsT FsK
theorem lf_up {h : Nat} (h1 : 1 ≤ h) (h4 : h + 1 ≤ 4) : lf h = 2 * lf (h + 1) + 1 := by
  have : h = 1 ∨ h = 2 ∨ h = 3 := by omega
  rcases this with rfl | rfl | rfl <;> rfl
theorem lf_top {h : Nat} (h1 : 1 ≤ h) (h4 : h ≤ 4) : lf h ≤ 7 ∧ (7 ≤ lf h → h = 1) ∧ (h = 1 → lf h = 7) := by
  have : h = 1 ∨ h = 2 ∨ h = 3 ∨ h = 4 := by omega
  rcases this with rfl | rfl | rfl | rfl <;> decide
section
variable {σ : L2.St} {H : Hp} {ta te tb : TE} {tas : TA} {tz : TS} {D : Ends} {K : PySem.W.Frag} {E : L2.St → XK}
/-- [offer] -/
theorem q_off1 {i : Nat} {rl b : Addr} {row : List Int} {k : Nat} (ha : EvA tas σ H [.ref rl, .int (k : Int), .ref b]) (hl : H rl = some (.lst (row.map V.int))) (hr : RowOk row) (hk : k + 3 < row.length) (h1000 : k ≤ 1000)
    (kk : ∀ ch s m op ns o u l H1 H2, Ex H H1 → H1 o = some (.tup [.str ch, .int s, .int m, Opd.v op, .ref u, .ref b]) → H1 u = some (.lst (ns.map V.str)) → OfOk ch s m op ns → H1 l = none → H2 = upd H1 l (.lst [.ref o]) → tz D (σ.set i (some (.ref l))) H2) :
    tSeq (tAsg (tLst (tCons (tCallS spLOffer E tas) tNil)) (gName i)) tz D σ H :=
  ha H (Ex.refl H) _ fun H1 e1 => ⟨rl, row, k, b, rfl, e1 _ _ hl, hr, hk, h1000, fun ch s m op ns o u H2 _ _ e2 h2 h3 ok => ⟨by show 1 ≤ sizeLine; decide, fun l hln => kk ch s m op ns o u l H2 _ (e1.trans e2) h2 h3 ok hln rfl⟩⟩
/-- l.append(offer) -/
theorem s_off2 {rl b l : Addr} {row : List Int} {k : Nat} {xs : List V} (hx : H l = some (.lst xs)) (hz : xs.length ≤ 100) (ht : Ev ta σ H (.ref l)) (ha : EvA tas σ H [.ref rl, .int (k : Int), .ref b]) (hl : H rl = some (.lst (row.map V.int))) (hr : RowOk row) (hk : k + 3 < row.length) (h1000 : k ≤ 1000)
    (kk : ∀ ch s m op ns o u H1, Ex H H1 → H1 o = some (.tup [.str ch, .int s, .int m, Opd.v op, .ref u, .ref b]) → H1 u = some (.lst (ns.map V.str)) → OfOk ch s m op ns → o ≠ l → u ≠ l → D.nx σ (upd H1 l (.lst (xs ++ [.ref o])))) :
    tDrop (tBM K "list" rAppend ta (tCons (tCallS spLOffer E tas) tNil)) D σ H := ht H (Ex.refl H) _ fun H1 e1 =>
  ⟨Or.inl ⟨rfl, xs, sq_of (e1 _ _ hx)⟩, ha H1 e1 _ fun H2 e2 => ⟨rl, row, k, b, rfl, (e1.trans e2) _ _ hl, hr, hk, h1000, fun ch s m op ns o u H3 no nu e3 h2 h3 ok => by
    have hl2 := (e1.trans e2) _ _ hx
    have o1 : o ≠ l := fun z => by rw [z, hl2] at no; cases no
    have u1 : u ≠ l := fun z => by rw [z, hl2] at nu; cases nu
    exact ⟨l, xs, .ref o, rfl, rfl, e3 _ _ hl2, sz_lt (by omega), kk ch s m op ns o u H3 ((e1.trans e2).trans e3) h2 h3 ok o1 u1⟩⟩⟩
end
section
variable {P : Program} {w : World} {K : PySem.W.Frag} {mg : Str → Option Value} {base : Heap} {C CB : Addr}
abbrev nsTerm : List Str := ["_law_row_here", "_law_node", "_law_at", "_law_kind", "_law_operands", "_law_first", "_law_other", "_law_offers", "_law_k"]
theorem scTerm : FnScope nsTerm ["_law_row_here", "_law_node"] (defScope (topS 54)) := ⟨rfl, rfl, rfl, by decide +kernel, rfl, by decide +kernel, by decide +kernel⟩
theorem ok_term {f : Addr} {fd : FuncData} (F : Fun K "_law_term" "_law_term" (topS 54) f fd) (L : LawT K mg) (GW : CalX P w K mg base CX0 1 "_law_word" spWordX) (GO : CalX P w K mg base CX0 2 "_law_operand" spOperand) (GF : CalX P w K mg base CX0 3 "_law_offer" spLOffer)
    (hm : mg "_law_term" = some (.ref f)) (kp : PySem.W.keepIn K (.ref f) = true) (bd : Binds K fd ["_law_row_here", "_law_node"] []) : ∀ h : Nat, FnOk P w K mg base CX0 (4 + h) f fd ["_law_row_here", "_law_node"] (spTerm h)
  | 0 => by
    refine F.ok scTerm (fun vs H Q E h => ?_) (fun cdv A outer s H vs Q E hr h => ?_)
    · obtain ⟨rl, row, n, rfl, _⟩ := h
      rfl
    · obtain ⟨rl, row, n, rfl, _, _, _, h1, _⟩ := h
      exact absurd h1 (by decide)
  | h + 1 => by
    have ih := ok_term F L GW GO GF hm kp bd h
    have GT : CalX P w K mg base CX0 (4 + h) "_law_term" (spTerm h) := ⟨f, fd, _, ih, hm, kp, bd⟩
    refine F.ok (k := 4 + h) scTerm (fun vs H Q E h => ?_) (fun cdv A outer s H vs Q E hr hh => ?_)
    · obtain ⟨rl, row, n, rfl, _⟩ := h
      rfl
    · obtain ⟨rl, row, n, rfl, hrl, hrow, hlen, h1, h4, n0, n1, q⟩ := hh
      refine ⟨_, pss_cons (ps_set (i := 2) scTerm.nd rfl (Or.inr rfl) (pe_op op_mul pe_int (pv 1)))
        (pss_cons (ps_set (i := 3) scTerm.nd rfl (Or.inl rfl) (pe_op op_mod (pe_callTy call_int1 (by rfl) L.int (by decide +kernel) (pa_cons (pe_ix ix_list (pv 0) (pv 2) (fun _ _ => rfl)) pa_nil)) pe_int))
        (pss_cut (ps_if (pt_cmpR op_ge (pv 1) pe_int (nomark _)) (pss_one (ps_set (i := 3) scTerm.nd rfl (Or.inl rfl) (pe_op op_mod (pe_callTy call_int1 (by rfl) L.int (by decide +kernel) (pa_cons (pe_ix ix_list (pv 0) (pv 2) (fun _ _ => rfl)) pa_nil)) pe_int))) pss_nil)
        (pss_cons (ps_if (pt_cmpR op_eq (pv 3) pe_int (nomark _)) (pss_one (ps_ret (pe_tup (pa_cons pe_str (pa_cons (pe_lst pa_nil) pa_nil))))) pss_nil)
        (pss_cons (ps_if (pt_cmpR op_eq (pv 3) pe_int (nomark _))
          (pss_cons (ps_setLc (i := 4) (own := [("_law_k", 8)]) (g := gName 8) (tt := tYes) (te := tCallS spOperand (fun _ => E0) (tCons (tOp (rIxL K) (tVar 0) (tOp (rI0 fun i j => .int (i + j)) (tOp (rI0 fun i j => .int (i + j)) (tVar 2) (tC (.int 2))) (tVar 8))) tNil)) rfl scTerm.nd rfl rfl (sw_true rfl rfl rfl (by decide +kernel))
              (pi_range1 rfl L.range (pa_cons (pe_op op_mod (pe_op op_fdiv (pe_ix ix_list (pv 0) (pv 2) (fun _ _ => rfl)) pe_int) pe_int) pa_nil)) (blkOk_by (own := [("_law_k", 8)]) (N := nsTerm) (sc := defScope (topS 54)) (by decide +kernel))
              (fun _ _ _ _ _ => pg_name (i := 8) scTerm.nd rfl (Or.inl rfl)) (fun _ _ _ _ _ => pts_nil)
              (fun _ _ _ _ _ => pe_cx (E := fun _ => E0) GO hr (by omega) (by rfl) at0 (pa_cons (pe_ix ix_list (pv 0) (pe_op op_add (pe_op op_add (pv 2) pe_int) (pv 8)) (fun _ _ => rfl)) pa_nil)))
            (pss_one (ps_ret (pe_tup (pa_cons pe_str (pa_cons (pe_cx (E := fun _ => E0) GW hr (by omega) (by rfl) at0 (pa_cons (pe_ix ix_list (pv 0) (pe_op op_add (pv 2) pe_int) (fun _ _ => rfl)) pa_nil)) (pa_cons (pv 4) pa_nil))))))) pss_nil)
        (pss_cons (ps_set (i := 5) scTerm.nd rfl (Or.inl rfl) (pe_cx (E := fun _ => E0) GT hr (Nat.le_refl _) (by rfl) at0 (pa_cons (pv 0) (pa_cons (pe_op op_add (pe_op op_mul pe_int (pv 1)) pe_int) pa_nil))))
        (pss_cons (ps_if (pt_cmpR op_eq (pv 3) pe_int (nomark _)) (pss_one (ps_ret (pe_tup (pa_cons pe_str (pa_cons (pe_cx (E := fun _ => E0) GW hr (by omega) (by rfl) at0 (pa_cons (pe_ix ix_list (pv 0) (pe_op op_add (pv 2) pe_int) (fun _ _ => rfl)) pa_nil))
            (pa_cons (pe_op op_add pe_int (pe_op op_mod (pe_callTy call_int1 (by rfl) L.int (by decide +kernel) (pa_cons (pe_ix ix_list (pv 0) (pe_op op_add (pv 2) pe_int) (fun _ _ => rfl)) pa_nil)) pe_int)) (pa_cons (pv 5) pa_nil))))))) pss_nil)
        (pss_cons (ps_set (i := 6) scTerm.nd rfl (Or.inl rfl) (pe_cx (E := fun _ => E0) GT hr (Nat.le_refl _) (by rfl) at0 (pa_cons (pv 0) (pa_cons (pe_op op_add (pe_op op_mul pe_int (pv 1)) pe_int) pa_nil))))
        (pss_cons (ps_if (pt_cmpR op_eq (pv 3) pe_int (nomark _)) (pss_one (ps_ret (pe_tup (pa_cons pe_str (pa_cons (pe_cx (E := fun _ => E0) GO hr (by omega) (by rfl) at0 (pa_cons (pe_ix ix_list (pv 0) (pe_op op_add (pv 2) pe_int) (fun _ _ => rfl)) pa_nil))
            (pa_cons (pe_cx (E := fun _ => E0) GO hr (by omega) (by rfl) at0 (pa_cons (pe_ix ix_list (pv 0) (pe_op op_add (pv 2) pe_int) (fun _ _ => rfl)) pa_nil)) (pa_cons (pv 5) (pa_cons (pv 6) pa_nil)))))))) pss_nil)
        (pss_cons (ps_set (i := 7) scTerm.nd rfl (Or.inl rfl) (pe_lst (pa_cons (pe_cx (E := fun _ => E0) GF hr (by omega) (by rfl) at0 (pa_cons (pv 0) (pa_cons (pe_op op_add (pv 2) pe_int) (pa_cons (pv 5) pa_nil)))) pa_nil)))
        (pss_cut (ps_if (pt_cmpR op_eq (pv 3) pe_int (nomark _)) (pss_one (ps_expr (pe_bm PySem.F.plainAttrs_list PySem.F.slot_list_append PySem.F.type_list_append mt_append (pv 7) (pa_cons (pe_cx (E := fun _ => E0) GF hr (by omega) (by rfl) at0 (pa_cons (pv 0) (pa_cons (pe_op op_add (pv 2) pe_int) (pa_cons (pv 6) pa_nil)))) pa_nil)))) pss_nil)
        (pss_one (ps_ret (pe_tup (pa_cons pe_str (pa_cons (pv 7) pa_nil))))))))))))))), ?_⟩
      have t7 := lf_top (h := h + 1) (by omega) h4
      have hn14 : n ≤ 14 := by omega
      have gt : ∀ j : Nat, j ≤ 8 → ∃ v, atI (row.map V.int) (9 * (n : Int) + (j : Int)) = some (.int v) ∧ 0 ≤ v ∧ v < 1000 := fun j hj => by
        obtain ⟨v, g, b, c⟩ := row_getN hlen hrow (i := 9 * n + j) (by omega)
        rw [show ((9 * n + j : Nat) : Int) = 9 * (n : Int) + (j : Int) by omega] at g
        exact ⟨v, g, b, c⟩
      obtain ⟨y0, g0, b0, c0⟩ := gt 0 (by decide)
      obtain ⟨y1, g1, b1, c1⟩ := gt 1 (by decide)
      obtain ⟨y2, g2, b2, c2⟩ := gt 2 (by decide)
      rw [show 9 * (n : Int) + ((0 : Nat) : Int) = 9 * (n : Int) by omega] at g0
      have ix0 : ∀ {H9 : Hp} {σ9 : L2.St}, Ex H H9 → σ9[0]? = some (some (.ref rl)) → σ9[2]? = some (some (.int (9 * (n : Int)))) → Ev (tOp (rIxL K) (tVar 0) (tVar 2)) σ9 H9 (.int y0) := fun e9 s0 s2 => ev_op (ev_var s0) (ev_var s2) (rv_ixL (sq_of (e9 _ _ hrl)) g0)
      have ix1 : ∀ {H9 : Hp} {σ9 : L2.St}, Ex H H9 → σ9[0]? = some (some (.ref rl)) → σ9[2]? = some (some (.int (9 * (n : Int)))) → Ev (tOp (rIxL K) (tVar 0) (tOp (rI0 fun i j => .int (i + j)) (tVar 2) (tC (.int 1)))) σ9 H9 (.int y1) := fun e9 s0 s2 => ev_op (ev_var s0) (ev_op (ev_var s2) ev_c rv_I0) (rv_ixL (sq_of (e9 _ _ hrl)) g1)
      have ix2 : ∀ {H9 : Hp} {σ9 : L2.St}, Ex H H9 → σ9[0]? = some (some (.ref rl)) → σ9[2]? = some (some (.int (9 * (n : Int)))) → Ev (tOp (rIxL K) (tVar 0) (tOp (rI0 fun i j => .int (i + j)) (tVar 2) (tC (.int 2)))) σ9 H9 (.int y2) := fun e9 s0 s2 => ev_op (ev_var s0) (ev_op (ev_var s2) ev_c rv_I0) (rv_ixL (sq_of (e9 _ _ hrl)) g2)
      refine q_asg (v := .int (9 * (n : Int))) (ev_op ev_c (ev_var rfl) (rv_I (.inl ⟨by decide, by decide⟩))) (fun H1 e1 => ?_)
      refine q_asg (v := .int (y0 % 6)) (ev_op (x := .int y0) (ev_cb (ea_cons (ix0 e1 rfl rfl) ea_nil) (rc_int (K := K))) ev_c (rv_I (by decide))) (fun H2 e2 => ?_)
      refine q_cut (M := fun σ' H' => ∃ kd : Int, σ' = [some (.ref rl), some (.int (n : Int)), some (.int (9 * (n : Int))), some (.int kd), none, none, none, none, none] ∧ Ex H H' ∧ 0 ≤ kd ∧ kd < 6 ∧ (7 ≤ n → kd < 2)) ?_ (fun σ3 H3 ⟨kd, hσ, x3, kd0, kd6, kd7⟩ => ?_)
      · refine s_when (b := decide ((n : Int) ≥ 7)) (et_test (ev_op (ev_var rfl) ev_c rv_I0)) (fun hb H3 e3 => ?_) (fun hb H3 e3 => ?_)
        · exact s_asg (v := .int (y0 % 2)) (ev_op (x := .int y0) (ev_cb (ea_cons (ix0 ((e1.trans e2).trans e3) rfl rfl) ea_nil) (rc_int (K := K))) ev_c (rv_I (by decide))) (fun H4 e4 => ⟨y0 % 2, rfl, ((e1.trans e2).trans e3).trans e4, by omega, by omega, fun _ => by omega⟩)
        · have hb' : ¬ (n : Int) ≥ 7 := of_decide_eq_false hb
          exact ⟨y0 % 6, rfl, (e1.trans e2).trans e3, by omega, by omega, fun z => absurd (by omega : (n : Int) ≥ 7) hb'⟩
      subst hσ
      refine q_when (b := decide (V.int kd = V.int 0)) (et_test (ev_op (ev_var rfl) ev_c (rv_eq rfl))) (fun _ H4 e4 => ?_) (fun hb0 H4 e4 => ?_)
      · have x4 := x3.trans e4
        refine ⟨by show 0 ≤ sizeLine; decide, fun l hl => ⟨by show 2 ≤ sizeLine; decide, fun a ha => q a (.choice .nil) _ (fresh_back x4 (fresh_back (Ex.new hl) ha)) (x4.trans ((Ex.new hl).trans (Ex.new ha))) ?_ (ok_stop1 h1)⟩⟩
        unfold TrAt OfsTr
        exact ⟨l, [], upd_same, (Ex.new ha) _ _ upd_same, rfl⟩
      have k0 : ¬ kd = 0 := fun z => by rw [z] at hb0; exact absurd hb0 (by decide)
      have x4 := x3.trans e4
      refine q_when (b := decide (V.int kd = V.int 1)) (et_test (ev_op (ev_var rfl) ev_c (rv_eq rfl))) (fun _ H5 e5 => ?_) (fun hb1 H5 e5 => ?_)
      · have x5 := x4.trans e5
        refine q_asgS (es_lcO (n := y0 / 6 % 5) (ea_cons (ev_op (x := .int (y0 / 6)) (ev_op (x := .int y0) (y := .int 6) (ix0 x5 rfl rfl) ev_c (rv_I ⟨by decide, by decide⟩)) ev_c (rv_I (by decide))) ea_nil) (by omega) (fun _ => rfl) (fun i H6 e6 hi => ?_)) (fun v H6 e6 ⟨u, ops, hv, hu, hol, hoo⟩ => ?_)
        · obtain ⟨v, g, b, c⟩ := gt (2 + i) (by omega)
          rw [show 9 * (n : Int) + ((2 + i : Nat) : Int) = 9 * (n : Int) + 2 + (i : Int) by omega] at g
          exact es_opd (d := v) (ea_cons (ev_op (ev_var rfl) (ev_op (ev_op (ev_var rfl) ev_c rv_I0) (ev_var rfl) rv_I0) (rv_ixL (sq_of ((x5.trans e6) _ _ hrl)) g)) ea_nil) b c
        · subst hv
          have x6 := x5.trans e6
          refine es_word (E := fun _ => E0) (σ := [some (.ref rl), some (.int (n : Int)), some (.int (9 * (n : Int))), some (.int kd), some (.ref u), none, none, none, none]) (d := y1) (ea_cons (ix1 x6 rfl rfl) ea_nil) H6 (Ex.refl H6) _ (fun v H7 e7 ⟨z, hv, hz, _⟩ => ?_)
          subst hv
          refine ⟨_, rfl, by show 3 ≤ sizeLine; decide, fun a ha => q a (.call z ops) _ (fresh_back (x6.trans e7) ha) ((x6.trans e7).trans (Ex.new ha)) ?_ (ok_call1 h1 hz (by omega) hoo)⟩
          unfold TrAt
          exact ⟨u, upd_same, (Ex.new ha) _ _ (e7 _ _ hu)⟩
      have k1 : ¬ kd = 1 := fun z => by rw [z] at hb1; exact absurd hb1 (by decide)
      have x5 := x4.trans e5
      have hn7 : ¬ 7 ≤ n := fun z => by have := kd7 z; omega
      have hh1 : 1 ≤ h := by
        rcases Nat.eq_zero_or_pos h with z | z
        · subst z
          have := t7.2.2 rfl
          omega
        · exact z
      have lu := lf_up hh1 h4
      refine q_asgS (es_term (h := h) (n := 2 * n + 1) (ea_cons (ev_var rfl) (ea_cons (ev_is (ev_op (ev_op ev_c (ev_var rfl) (rv_I (.inl ⟨by decide, by decide⟩))) ev_c rv_I0) (by rw [show ((2 * n + 1 : Nat) : Int) = 2 * (n : Int) + 1 by omega])) ea_nil)) (x5 _ _ hrl) hrow hlen hh1 (by omega) (by omega) (by omega)) (fun v H6 e6 ⟨a1, p1, hv, t1, o1⟩ => ?_)
      subst hv
      have x6 := x5.trans e6
      refine q_when (b := decide (V.int kd = V.int 2)) (et_test (ev_op (ev_var rfl) ev_c (rv_eq rfl))) (fun _ H7 e7 => ?_) (fun hb2 H7 e7 => ?_)
      · have x7 := x6.trans e7
        refine es_word (E := fun _ => E0) (σ := [some (.ref rl), some (.int (n : Int)), some (.int (9 * (n : Int))), some (.int kd), none, some (.ref a1), none, none, none]) (d := y1) (ea_cons (ix1 x7 rfl rfl) ea_nil) H7 (Ex.refl H7) _ (fun v H8 e8 ⟨z, hv, hz, _⟩ => ?_)
        subst hv
        have x8 := x7.trans e8
        refine (ev_op (r := rI0 fun i j => .int (i + j)) (σ := [some (.ref rl), some (.int (n : Int)), some (.int (9 * (n : Int))), some (.int kd), none, some (.ref a1), none, none, none]) (x := .int 1) (y := .int (y2 % 4)) ev_c (ev_op (r := rI (fun _ j => 0 < j) fun i j => .int (i % j)) (x := .int y2) (y := .int 4) (ev_cb (ea_cons (ix2 x8 rfl rfl) ea_nil) (rc_int (K := K))) ev_c (rv_I (by decide))) rv_I0 : Ev _ _ H8 _) H8 (Ex.refl H8) _ (fun H9 e9 => ?_)
        refine ⟨_, rfl, by show 4 ≤ sizeLine; decide, fun a ha => q a (.new z (1 + y2 % 4) p1) _ (fresh_back (x8.trans e9) ha) ((x8.trans e9).trans (Ex.new ha)) ?_ (ok_new1 hh1 hz (by omega) (by omega) o1)⟩
        unfold TrAt
        exact ⟨a1, upd_same, t1.ex (((e7.trans e8).trans e9).trans (Ex.new ha))⟩
      have k2 : ¬ kd = 2 := fun z => by rw [z] at hb2; exact absurd hb2 (by decide)
      have x7 := x6.trans e7
      refine q_asgS (es_term (h := h) (n := 2 * n + 2) (ea_cons (ev_var rfl) (ea_cons (ev_is (ev_op (ev_op ev_c (ev_var rfl) (rv_I (.inl ⟨by decide, by decide⟩))) ev_c rv_I0) (by rw [show ((2 * n + 2 : Nat) : Int) = 2 * (n : Int) + 2 by omega])) ea_nil)) (x7 _ _ hrl) hrow hlen hh1 (by omega) (by omega) (by omega)) (fun v H8 e8 ⟨a2, p2, hv, t2, o2⟩ => ?_)
      subst hv
      have x8 := x7.trans e8
      have t1' := t1.ex (e7.trans e8)
      refine q_when (b := decide (V.int kd = V.int 3)) (et_test (ev_op (ev_var rfl) ev_c (rv_eq rfl))) (fun _ H9 e9 => ?_) (fun hb3 H9 e9 => ?_)
      · have x9 := x8.trans e9
        refine es_opd (E := fun _ => E0) (σ := [some (.ref rl), some (.int (n : Int)), some (.int (9 * (n : Int))), some (.int kd), none, some (.ref a1), some (.ref a2), none, none]) (d := y1) (ea_cons (ix1 x9 rfl rfl) ea_nil) b1 c1 H9 (Ex.refl H9) _ (fun v H10 e10 ⟨l, hv, hl⟩ => ?_)
        subst hv
        refine es_opd (E := fun _ => E0) (σ := [some (.ref rl), some (.int (n : Int)), some (.int (9 * (n : Int))), some (.int kd), none, some (.ref a1), some (.ref a2), none, none]) (d := y2) (ea_cons (ix2 (x9.trans e10) rfl rfl) ea_nil) b2 c2 H10 (Ex.refl H10) _ (fun v H11 e11 ⟨r, hv, hr'⟩ => ?_)
        subst hv
        have x11 := (x9.trans e10).trans e11
        refine ⟨_, rfl, _, rfl, by show 5 ≤ sizeLine; decide, fun a ha => q a (.cond l r p1 p2) _ (fresh_back x11 ha) (x11.trans (Ex.new ha)) ?_ (ok_cond1 hh1 hl hr' o1 o2)⟩
        unfold TrAt
        exact ⟨a1, a2, upd_same, t1'.ex (((e9.trans e10).trans e11).trans (Ex.new ha)), t2.ex (((e9.trans e10).trans e11).trans (Ex.new ha))⟩
      have x9 := x8.trans e9
      refine q_off1 (k := 9 * n + 1) (row := row) (ea_cons (ev_var rfl) (ea_cons (ev_is (ev_op (ev_var rfl) ev_c rv_I0) (by rw [show ((9 * n + 1 : Nat) : Int) = 9 * (n : Int) + 1 by omega])) (ea_cons (ev_var rfl) ea_nil))) (x9 _ _ hrl) hrow (by omega) (by omega) (fun ch s m op ns o u l H10 H11 e10 h10 h10' ok10 hln hH11 => ?_)
      have x10 := x9.trans e10
      have t1b := t1'.ex (e9.trans e10)
      have t2b := t2.ex (e9.trans e10)
      subst hH11
      have x11 := x10.trans (Ex.new (o := .lst [.ref o]) hln)
      refine q_cut (M := fun σ' H' => ∃ (os : Ofs) (xs : List V), σ' = [some (.ref rl), some (.int (n : Int)), some (.int (9 * (n : Int))), some (.int kd), none, some (.ref a1), some (.ref a2), some (.ref l), none] ∧ H' l = some (.lst xs) ∧ OfsTr H' xs os ∧ TrOk (h + 1) (.choice os) ∧ Ex H H') ?_ (fun σ' H' ⟨os, xs, hσ, g1', g2', g3', he⟩ => ?_)
      · refine s_when (b := decide (V.int kd = V.int 5)) (et_test (ev_op (ev_var rfl) ev_c (rv_eq rfl))) (fun _ H12 e12 => ?_) (fun _ H12 e12 => ?_)
        · have y12 : Ex H10 H12 := (Ex.new hln).trans e12
          have hl12 : H12 l = some (.lst [.ref o]) := e12 _ _ upd_same
          refine s_off2 (k := 9 * n + 5) (row := row) hl12 (by show 1 ≤ 100; decide) (ev_var rfl) (ea_cons (ev_var rfl) (ea_cons (ev_is (ev_op (ev_var rfl) ev_c rv_I0) (by rw [show ((9 * n + 5 : Nat) : Int) = 9 * (n : Int) + 5 by omega])) (ea_cons (ev_var rfl) ea_nil))) ((x10.trans y12) _ _ hrl) hrow (by omega) (by omega) (fun ch' s' m' op' ns' o' u' H13 e13 h13 h13' ok13 no nu => ?_)
          have ym : Ex H10 (upd H13 l (.lst ([.ref o] ++ [.ref o']))) := Ex.mut (y12.trans e13) hln
          refine ⟨.cons ch s m op ns p1 (.cons ch' s' m' op' ns' p2 .nil), _, rfl, upd_same, ?_, ok_off2 hh1 ok10 ok13 o1 o2, x10.trans ym⟩
          unfold OfsTr OfsTr OfsTr
          exact ⟨o, u, a1, [.ref o'], rfl, ym _ _ h10, ym _ _ h10', t1b.ex ym, o', u', a2, [], rfl, by rw [upd_ne no]; exact h13, by rw [upd_ne nu]; exact h13', t2b.ex ym, rfl⟩
        · have y12 : Ex H10 H12 := (Ex.new hln).trans e12
          refine ⟨.cons ch s m op ns p1 .nil, [.ref o], rfl, e12 _ _ upd_same, ?_, ok_off1 hh1 ok10 o1, x10.trans y12⟩
          unfold OfsTr OfsTr
          exact ⟨o, u, a1, [], rfl, y12 _ _ h10, y12 _ _ h10', t1b.ex y12, rfl⟩
      · subst hσ
        refine ⟨_, rfl, by show 2 ≤ sizeLine; decide, fun a ha => q a (.choice os) _ (fresh_back he ha) (he.trans (Ex.new ha)) ?_ g3'⟩
        unfold TrAt
        exact ⟨l, xs, upd_same, (Ex.new ha) _ _ g1', g2'.ex (Ex.new ha)⟩
end
end Fs

set_option Elab.async false
set_option linter.all false
set_option maxRecDepth 100000
set_option maxHeartbeats 8000000
namespace Fs
open PySem L2 Evl FsE FsC FsR FsT FsK
structure StaT (P : Program) (w : World) (K : PySem.W.Frag) (mg : Str → Option Value) (base : Heap) (C CB : Addr) (k : Nat) : Prop where
  mgC : mg "Process" = some (.ref C)
  stop : StaX P w K mg base (L2.CX P w) k C "stop" (spStop C CB)
  new : StaX P w K mg base (L2.CX P w) k C "new" (spNew C CB)
  when : StaX P w K mg base (L2.CX P w) k C "when" (spWhen C CB)
  call : StaX P w K mg base (L2.CX P w) k C "call" (spCall K C CB)
  offer : StaX P w K mg base (L2.CX P w) k C "offer" (spOffer C CB)
  add : ∃ (g : Addr) (fd : FuncData) (ps : List Str), OpM K C .Add g ∧ FnOk P w K mg base (L2.CX P w) k g fd ps (spAdd C CB) ∧ Binds K fd ps []
theorem Ofs.app_depth : ∀ os qs : Ofs, (os.app qs).depth = max os.depth qs.depth
  | .nil, qs => by
    show qs.depth = max (Ofs.depth .nil) qs.depth
    have h := Ofs.depth_nn qs
    rw [Ofs.depth]
    omega
  | .cons c s m op ns r os, qs => by
    have ih := Ofs.app_depth os qs
    show Ofs.depth (.cons c s m op ns r (os.app qs)) = max (Ofs.depth (.cons c s m op ns r os)) _
    rw [Ofs.depth, Ofs.depth, ih]
    omega
theorem Ofs.app_sum : ∀ os qs : Ofs, (os.app qs).sum = os.sum + qs.sum
  | .nil, qs => by
    show qs.sum = Ofs.sum .nil + qs.sum
    rw [Ofs.sum]
    omega
  | .cons c s m op ns r os, qs => by
    have ih := Ofs.app_sum os qs
    show Ofs.sum (.cons c s m op ns r (os.app qs)) = Ofs.sum (.cons c s m op ns r os) + _
    rw [Ofs.sum, Ofs.sum, ih]
    omega
theorem Ofs.app_assoc : ∀ a b c : Ofs, (a.app b).app c = a.app (b.app c)
  | .nil, _, _ => rfl
  | .cons ch s m op ns r os, b, c => by
    show Ofs.cons ch s m op ns r ((os.app b).app c) = Ofs.cons ch s m op ns r (os.app (b.app c))
    rw [Ofs.app_assoc os b c]
mutual
theorem Pr.size_pos : ∀ p : Pr, 1 ≤ p.size
  | .choice os => by
    have := Ofs.sum_nn os
    rw [Pr.size]
    omega
  | .new n k r => by
    have := Pr.size_pos r
    rw [Pr.size]
    omega
  | .cond l r y n => by
    have := Pr.size_pos y
    have := Pr.size_pos n
    rw [Pr.size]
    omega
  | .call n ops => by
    rw [Pr.size]
    decide
theorem Ofs.sum_nn : ∀ os : Ofs, 0 ≤ os.sum
  | .nil => by
    rw [Ofs.sum]
    decide
  | .cons c s m op ns r os => by
    have := Pr.size_pos r
    have := Ofs.sum_nn os
    rw [Ofs.sum]
    omega
end
theorem AlO.app : ∀ {a b : Ofs}, AlO (a.app b) → AlO a ∧ AlO b
  | .nil, b, h => ⟨by unfold AlO; trivial, h⟩
  | .cons c s m op ns r os, b, h => by
    have h' : AlO (.cons c s m op ns r (os.app b)) := h
    unfold AlO at h'
    obtain ⟨h1, h2, h3⟩ := h'
    obtain ⟨h4, h5⟩ := AlO.app h3
    refine ⟨?_, h5⟩
    unfold AlO
    exact ⟨h1, h2, h4⟩
/-! nothing that is allowed is refused -/
theorem bi_none {p : Pr} (hd : p.depth ≤ 20) (hs : p.size ≤ 400) : badInit p = none := by
  unfold badInit
  rw [if_pos hd, if_pos hs]
theorem seats_B {m : Int} (m1 : 1 ≤ m) (m4 : m ≤ 4) : seatsV (.int m) = true := by
  show (decide (1 ≤ m) && decide (m ≤ 4)) = true
  rw [decide_eq_true m1, decide_eq_true m4]
  rfl
theorem bn_none {z : Str} {k : Int} {r : Pr} (hz : WordOk z) (k1 : 1 ≤ k) (k4 : k ≤ 4) (hd : (Pr.new z k r).depth ≤ 20) (hs : (Pr.new z k r).size ≤ 400) : badNew z k r = none := by
  unfold badNew
  rw [if_pos hz.nm, if_pos (seats_B k1 k4)]
  exact bi_none hd hs
theorem bw_none {l r : Opd} {y n : Pr} (hl : OpdOk l) (hr : OpdOk r) (hd : (Pr.cond l r y n).depth ≤ 20) (hs : (Pr.cond l r y n).size ≤ 400) : badWhen l r y n = none := by
  unfold badWhen
  rw [if_pos (opdOk_v hl), if_pos (opdOk_v hr)]
  exact bi_none hd hs
theorem bc_none {z : Str} {ops : List Opd} (hz : WordOk z) (hl : ops.length ≤ 4) (ho : ∀ o ∈ ops, OpdOk o) : badCall z ops = none := by
  have h1 : (ops.map fun o => operandV o.v).all id = true := by
    rw [List.all_eq_true]
    intro b hb
    obtain ⟨o, ho', rfl⟩ := List.mem_map.mp hb
    exact opdOk_v (ho o ho')
  unfold badCall opsOk
  rw [if_pos hz.nm, if_pos (by rw [h1, decide_eq_true (by omega)]; rfl)]
  exact bi_none (by rw [Pr.depth]; decide) (by rw [Pr.size]; decide)
theorem bo_none {c : Str} {s m : Int} {op : Opd} {ns : List Str} {r : Pr} (h : OfOk c s m op ns) (hd : (Pr.choice (.cons c s m op ns r .nil)).depth ≤ 20) (hs : (Pr.choice (.cons c s m op ns r .nil)).size ≤ 400) : badOffer c s m op ns r = none := by
  unfold badOffer
  rw [if_pos h.ch.nm, if_pos (seats_B h.m1 h.m4), if_pos (by rw [decide_eq_true h.s0, decide_eq_true h.s1]; rfl), if_pos (opdOk_v h.op), if_pos (by rw [h.nl, decide_eq_true rfl, h.nd]; rfl)]
  exact bi_none hd hs
theorem ba_none {a b : Ofs} (hl : a.len + b.len ≤ 6) (hd : (Pr.choice (a.app b)).depth ≤ 20) (hs : (Pr.choice (a.app b)).size ≤ 400) : badAdd (.choice a) (.choice b) = none := by
  unfold badAdd
  rw [if_pos (show ((Pr.choice a).isCh && (Pr.choice b).isCh) = true from rfl)]
  show (if a.len + b.len ≤ 6 then badInit (.choice (a.app b)) else some "offers") = none
  rw [if_pos hl]
  exact bi_none hd hs
theorem ch_num (os : Ofs) : (Pr.choice os).depth = 1 + os.depth ∧ (Pr.choice os).size = max 1 (os.len : Int) + os.sum := ⟨by rw [Pr.depth], by rw [Pr.size]⟩
def spMade (C : Addr) (d : Nat) : Sp := fun vs H Q _ => ∃ (a : Addr) (p : Pr), vs = [.ref a] ∧ TrAt H a p ∧ AlP p ∧ p.depth ≤ (d : Int) ∧ d ≤ 20 ∧ p.size ≤ 400 ∧ ∀ c H', H c = none → Ex H H' → PrAt C H' c p → Q (.ref c) H'
section
variable {P : Program} {w : World} {K : PySem.W.Frag} {mg : Str → Option Value} {base : Heap} {C CB : Addr}
abbrev nsMade : List Str := ["_law_term_here", "_law_made_here", "_law_channel", "_law_seat", "_law_seats", "_law_operand_here", "_law_names", "_law_rest"]
theorem scMade : FnScope nsMade ["_law_term_here"] (defScope (topS 55)) := ⟨rfl, rfl, rfl, by decide +kernel, rfl, by decide +kernel, by decide +kernel⟩
theorem kC_C : decide (V.str ("choice" : Str) = V.str "choice") = true := by decide +kernel
theorem kN_C : decide (V.str ("new" : Str) = V.str "choice") = false := by decide +kernel
theorem kN_N : decide (V.str ("new" : Str) = V.str "new") = true := by decide +kernel
theorem kI_C : decide (V.str ("if" : Str) = V.str "choice") = false := by decide +kernel
theorem kI_N : decide (V.str ("if" : Str) = V.str "new") = false := by decide +kernel
theorem kI_I : decide (V.str ("if" : Str) = V.str "if") = true := by decide +kernel
theorem kL_C : decide (V.str ("call" : Str) = V.str "choice") = false := by decide +kernel
theorem kL_N : decide (V.str ("call" : Str) = V.str "new") = false := by decide +kernel
theorem kL_I : decide (V.str ("call" : Str) = V.str "if") = false := by decide +kernel
theorem ok_made {f : Addr} {fd : FuncData} (F : Fun K "_law_made" "_law_made" (topS 55) f fd) (S : StaT P w K mg base C CB 5) (hlist : mg "list" = none) (hm : mg "_law_made" = some (.ref f)) (kp : PySem.W.keepIn K (.ref f) = true) (bd : Binds K fd ["_law_term_here"] []) : ∀ d : Nat, FnOk P w K mg base CX0 (6 + d) f fd ["_law_term_here"] (spMade C d)
  | 0 => by
    refine F.ok scMade (fun vs H Q E h => ?_) (fun cdv A outer s H vs Q E hr h => ?_)
    · obtain ⟨a, p, rfl, _⟩ := h
      rfl
    · obtain ⟨a, p, rfl, _, _, hd, _⟩ := h
      have := Pr.depth_pos p
      exact absurd hd (by omega)
  | d + 1 => by
    have ih := ok_made F S hlist hm kp bd d
    have GM : CalX P w K mg base CX0 (6 + d) "_law_made" (spMade C d) := ⟨f, fd, _, ih, hm, kp, bd⟩
    refine F.ok (k := 6 + d) scMade (fun vs H Q E h => ?_) (fun cdv A outer s H vs Q E hr h => ?_)
    · obtain ⟨a, p, rfl, _⟩ := h
      rfl
    · obtain ⟨a, p, rfl, ht, hal, hd, hd20, hs, q⟩ := h
      obtain ⟨g, fdg, psg, OM, FA, BA⟩ := S.add
      refine ⟨_, pss_cons (ps_if (pt_cmpR op_eq (pe_ix ix_tup (pv 0) pe_int (fun _ _ => rfl)) pe_str (nomark _))
          (pss_cons (ps_set (i := 1) scMade.nd rfl (Or.inl rfl) (pe_sx0 (E := fun _ => E0) S.stop hr (by omega) (pe_glob (v := .ref C) (by rfl) S.mgC rfl) (fun σ => passesAt_of passL σ)))
          (pss_cons (ps_for PassesOwn.never rfl (pi_list (pe_ix ix_tup (pv 0) pe_int (fun _ _ => rfl))) (pg_tup rfl (pgs_cons (pg_name (i := 2) scMade.nd rfl (.inl rfl)) (pgs_cons (pg_name (i := 3) scMade.nd rfl (.inl rfl)) (pgs_cons (pg_name (i := 4) scMade.nd rfl (.inl rfl)) (pgs_cons (pg_name (i := 5) scMade.nd rfl (.inl rfl)) (pgs_cons (pg_name (i := 6) scMade.nd rfl (.inl rfl)) (pgs_cons (pg_name (i := 7) scMade.nd rfl (.inl rfl)) pgs_nil)))))))
            (pss_one (ps_set (i := 1) scMade.nd rfl (Or.inl rfl) (pe_own (E := fun _ => E0) (pv 1) (pe_sx (E := fun _ => E0) S.offer hr (by omega) (pe_glob (v := .ref C) (by rfl) S.mgC rfl) (fun σ => passesAt_of passL σ)
              (pa_cons (pv 2) (pa_cons (pv 3) (pa_cons (pv 4) (pa_cons (pv 5) (pa_cons (pe_callTy call_list_of (by rfl) hlist (by decide +kernel) (pa_cons (pv 6) pa_nil)) (pa_cons (pe_cx (E := fun _ => E0) GM hr (Nat.le_refl _) (by rfl) at0 (pa_cons (pv 7) pa_nil)) pa_nil))))))) OM FA (hr.mono (by omega)) BA (fun σ => passesAt_of passL σ)))))
          (pss_one (ps_ret (pv 1))))) pss_nil)
        (pss_cons (ps_if (pt_cmpR op_eq (pe_ix ix_tup (pv 0) pe_int (fun _ _ => rfl)) pe_str (nomark _)) (pss_one (ps_ret (pe_sx (E := fun _ => E0) S.new hr (by omega) (pe_glob (v := .ref C) (by rfl) S.mgC rfl) (fun σ => passesAt_of passL σ)
            (pa_cons (pe_ix ix_tup (pv 0) pe_int (fun _ _ => rfl)) (pa_cons (pe_ix ix_tup (pv 0) pe_int (fun _ _ => rfl)) (pa_cons (pe_cx (E := fun _ => E0) GM hr (Nat.le_refl _) (by rfl) at0 (pa_cons (pe_ix ix_tup (pv 0) pe_int (fun _ _ => rfl)) pa_nil)) pa_nil)))))) pss_nil)
        (pss_cons (ps_if (pt_cmpR op_eq (pe_ix ix_tup (pv 0) pe_int (fun _ _ => rfl)) pe_str (nomark _)) (pss_one (ps_ret (pe_sx (E := fun _ => E0) S.when hr (by omega) (pe_glob (v := .ref C) (by rfl) S.mgC rfl) (fun σ => passesAt_of passL σ)
            (pa_cons (pe_ix ix_tup (pv 0) pe_int (fun _ _ => rfl)) (pa_cons (pe_ix ix_tup (pv 0) pe_int (fun _ _ => rfl)) (pa_cons (pe_cx (E := fun _ => E0) GM hr (Nat.le_refl _) (by rfl) at0 (pa_cons (pe_ix ix_tup (pv 0) pe_int (fun _ _ => rfl)) pa_nil)) (pa_cons (pe_cx (E := fun _ => E0) GM hr (Nat.le_refl _) (by rfl) at0 (pa_cons (pe_ix ix_tup (pv 0) pe_int (fun _ _ => rfl)) pa_nil)) pa_nil))))))) pss_nil)
        (pss_one (ps_ret (pe_sx (E := fun _ => E0) S.call hr (by omega) (pe_glob (v := .ref C) (by rfl) S.mgC rfl) (fun σ => passesAt_of passL σ)
            (pa_cons (pe_ix ix_tup (pv 0) pe_int (fun _ _ => rfl)) (pa_cons (pe_callTy call_list_of (by rfl) hlist (by decide +kernel) (pa_cons (pe_ix ix_tup (pv 0) pe_int (fun _ _ => rfl)) pa_nil)) pa_nil))))))), ?_⟩
      have hdS : (d : Int) + 1 ≤ 20 := by omega
      have ixk : ∀ {xs : List V} {H9 : Hp} {σ9 : L2.St} {i : Int} {v : V}, H9 a = some (.tup xs) → σ9[0]? = some (some (.ref a)) → atI xs i = some v → Ev (tOp (rIxT K) (tVar 0) (tC (.int i))) σ9 H9 v := fun h9 s0 g => ev_op (ev_var s0) ev_c (rv_ixT (st_of h9) g)
      cases p with
      | choice os =>
        unfold TrAt at ht
        obtain ⟨l, xs, h1, h2, h3⟩ := ht
        unfold AlP at hal
        obtain ⟨hlen, hao⟩ := hal
        obtain ⟨nd, nz⟩ := ch_num os
        rw [nd] at hd
        rw [nz] at hs
        refine q_when (b := true) (et_is (et_test (ev_op (ixk h1 rfl rfl) ev_c (rv_eq rfl))) kC_C) (fun _ H1 e1 => ?_) (fun hb => nomatch hb)
        refine ⟨rfl, rfl, fun _ b0 H2 hb0 e2 hp0 => ?_, fun f hf => nomatch hf⟩
        have x2 := e1.trans e2
        refine q_forL (a := l) (xs := xs) (ixk (x2 _ _ h1) rfl rfl) (sq_of (x2 _ _ h2)) (fun i σ' H' => ∃ (b : Addr) (pre post : Ofs) (v2 v3 v4 v5 v6 v7 : Option V), σ' = [some (.ref a), some (.ref b), v2, v3, v4, v5, v6, v7] ∧ os = pre.app post ∧ OfsTr H' (xs.drop i) post ∧ PrAt C H' b (.choice pre) ∧ H b = none ∧ Ex H H')
          (fun H3 e3 => ⟨b0, .nil, os, _, _, _, _, _, _, rfl, rfl, h3.ex (x2.trans e3), hp0.ex e3, fresh_back e1 hb0, x2.trans e3⟩) (fun i σ' H' _ ⟨_, _, _, _, _, _, _, _, _, _, _, _, _, _, he⟩ => sq_of (he _ _ h2)) (fun i x σ' H' hx ⟨b, pre, post, v2, v3, v4, v5, v6, v7, hσ, hos, hof, hpb, hbn, he⟩ => ?_) (fun σ' H' ⟨b, pre, post, v2, v3, v4, v5, v6, v7, hσ, hos, hof, hpb, hbn, he⟩ => ?_)
        · subst hσ
          have hd0 : (xs.drop i)[0]? = some x := by rw [List.getElem?_drop, Nat.add_zero]; exact hx
          cases post with
          | nil =>
            unfold OfsTr at hof
            rw [hof] at hd0
            cases hd0
          | cons ch s m op ns r post =>
            unfold OfsTr at hof
            obtain ⟨o, u, b2, qs, hdr, ho, hu, htr, hof⟩ := hof
            rw [hdr] at hd0
            obtain rfl : x = .ref o := (Option.some.inj hd0).symm
            have hdr1 : xs.drop (i + 1) = qs := by rw [← List.drop_drop, hdr]; rfl
            rw [hos] at hao
            obtain ⟨ap, aq⟩ := AlO.app hao
            unfold AlO at aq
            obtain ⟨ofk, alr, alq⟩ := aq
            have eD : os.depth = max pre.depth (max r.depth post.depth) := by rw [hos, Ofs.app_depth, Ofs.depth]
            have eS : os.sum = pre.sum + (r.size + post.sum) := by rw [hos, Ofs.app_sum, Ofs.sum]
            have eL : os.len = pre.len + (post.len + 1) := by rw [hos, Ofs.app_len]; rfl
            have p1 := Ofs.sum_nn pre
            have p2 := Ofs.sum_nn post
            have p3 := Pr.size_pos r
            have p4 := Ofs.depth_nn pre
            have p5 := Ofs.depth_nn post
            have p6 := Pr.depth_pos r
            have oD : (Ofs.cons ch s m op ns r .nil).depth = max r.depth 0 := by rw [Ofs.depth, Ofs.depth]
            have oS : (Ofs.cons ch s m op ns r .nil).sum = r.size + 0 := by rw [Ofs.sum, Ofs.sum]
            have oL : (Ofs.cons ch s m op ns r .nil).len = 1 := rfl
            refine ⟨o, _, rfl, st_of ho, rfl, _, _, rfl, _, _, rfl, _, _, rfl, _, _, rfl, _, _, rfl, _, _, rfl, rfl, ?_⟩
            refine ⟨_, rfl, rfl, _, rfl, _, rfl, _, rfl, _, rfl, _, rfl, u, _, rfl, .inl (sq_of hu), fun lu hlu => ⟨_, rfl, b2, r, rfl, htr.ex (Ex.new hlu), alr, by omega, by omega, by omega, fun c H3 hc e3 h3' => ?_⟩⟩
            have y3 : Ex H' H3 := (Ex.new hlu).trans e3
            refine ⟨ch, s, m, op, lu, ns, c, r, rfl, by have := ofk.ch.len; omega, opdOk_ok ofk.op, .inl (e3 _ _ upd_same), by have := ofk.nl; have := ofk.m4; omega, (fun y hy => by have := (ofk.nz y hy).1; omega), h3', fun _ c2 H4 hc2 e4 h4 => ?_, fun f hf => by
              rw [bo_none ofk (by rw [(ch_num _).1, oD]; omega) (by rw [(ch_num _).2, oS, oL]; omega)] at hf
              cases hf⟩
            have y4 := y3.trans e4
            have b4 := hpb.ex y4
            obtain ⟨tt1, xs1, ⟨dx, i1⟩, _⟩ := b4.out
            obtain ⟨tt2, xs2, ⟨dy, i2⟩, _⟩ := h4.out
            refine ⟨b, c2, dx, dy, _, _, rfl, rfl, i1, i2, b, c2, .choice pre, .choice (.cons ch s m op ns r .nil), rfl, b4, h4, by show pre.len ≤ 40; omega, by show 1 ≤ 40; decide, fun _ c5 H5 hc5 e5 h5 => ?_, fun f hf => by
              rw [ba_none (by rw [oL]; omega) (by rw [(ch_num _).1, Ofs.app_depth, oD]; omega) (by rw [(ch_num _).2, Ofs.app_sum, Ofs.app_len, oS, oL]; omega)] at hf
              cases hf⟩
            have y5 := y4.trans e5
            exact ⟨c5, pre.app (.cons ch s m op ns r .nil), post, _, _, _, _, _, _, rfl, by rw [Ofs.app_assoc]; exact hos, by rw [hdr1]; exact hof.ex y5, h5, fresh_back (he.trans y4) hc5, he.trans y5⟩
        · subst hσ
          rw [List.drop_length] at hof
          cases post with
          | nil =>
            rw [Ofs.app_nil] at hos
            subst hos
            exact s_ret (ev_var rfl) (fun H5 e5 => q b H5 hbn (he.trans e5) (hpb.ex e5))
          | cons ch s m op ns r post =>
            unfold OfsTr at hof
            obtain ⟨o, u, b2, qs, hdr, _⟩ := hof
            cases hdr
      | new n kk r =>
        unfold TrAt at ht
        obtain ⟨b, h1, h2⟩ := ht
        unfold AlP at hal
        obtain ⟨hn, k1, k4, alr⟩ := hal
        have eD : (Pr.new n kk r).depth = 1 + r.depth := by rw [Pr.depth]
        have eS : (Pr.new n kk r).size = 1 + r.size := by rw [Pr.size]
        refine q_when (b := false) (et_is (et_test (ev_op (ixk h1 rfl rfl) ev_c (rv_eq rfl))) kN_C) (fun hb => nomatch hb) (fun _ H1 e1 => ?_)
        refine q_when (b := true) (et_is (et_test (ev_op (ixk (e1 _ _ h1) rfl rfl) ev_c (rv_eq rfl))) kN_N) (fun _ H2 e2 => ?_) (fun hb => nomatch hb)
        have x2 := e1.trans e2
        refine ⟨rfl, (ixk (σ9 := [some (.ref a), none, none, none, none, none, none, none]) (i := 1) (v := .str n) (x2 _ _ h1) rfl rfl : Ev _ _ H2 _) H2 (Ex.refl H2) _ (fun H3 e3 => ?_)⟩
        have x3 := x2.trans e3
        refine (ixk (σ9 := [some (.ref a), none, none, none, none, none, none, none]) (i := 2) (v := .int kk) (x3 _ _ h1) rfl rfl : Ev _ _ H3 _) H3 (Ex.refl H3) _ (fun H4 e4 => ?_)
        have x4 := x3.trans e4
        refine (ixk (σ9 := [some (.ref a), none, none, none, none, none, none, none]) (i := 3) (v := .ref b) (x4 _ _ h1) rfl rfl : Ev _ _ H4 _) H4 (Ex.refl H4) _ (fun H5 e5 => ?_)
        have x5 := x4.trans e5
        refine ⟨b, r, rfl, h2.ex x5, alr, by omega, by omega, by omega, fun c H6 hc e6 h6 => ?_⟩
        refine ⟨n, kk, c, r, rfl, by have := hn.len; omega, h6, fun _ c2 H7 hc2 e7 h7 => q c2 H7 (fresh_back (x5.trans e6) hc2) ((x5.trans e6).trans e7) h7, fun f hf => by
          rw [bn_none hn k1 k4 (by omega) (by omega)] at hf
          cases hf⟩
      | cond lo ro y n =>
        unfold TrAt at ht
        obtain ⟨b, b', h1, h2, h3⟩ := ht
        unfold AlP at hal
        obtain ⟨hl, hr', aly, aln⟩ := hal
        have eD : (Pr.cond lo ro y n).depth = 1 + max y.depth n.depth := by rw [Pr.depth]
        have eS : (Pr.cond lo ro y n).size = 1 + (y.size + n.size) := by rw [Pr.size]
        have p1 := Pr.size_pos y
        have p2 := Pr.size_pos n
        refine q_when (b := false) (et_is (et_test (ev_op (ixk h1 rfl rfl) ev_c (rv_eq rfl))) kI_C) (fun hb => nomatch hb) (fun _ H1 e1 => ?_)
        refine q_when (b := false) (et_is (et_test (ev_op (ixk (e1 _ _ h1) rfl rfl) ev_c (rv_eq rfl))) kI_N) (fun hb => nomatch hb) (fun _ H2 e2 => ?_)
        have x2 := e1.trans e2
        refine q_when (b := true) (et_is (et_test (ev_op (ixk (x2 _ _ h1) rfl rfl) ev_c (rv_eq rfl))) kI_I) (fun _ H3 e3 => ?_) (fun hb => nomatch hb)
        have x3 := x2.trans e3
        refine ⟨rfl, (ixk (σ9 := [some (.ref a), none, none, none, none, none, none, none]) (i := 1) (v := lo.v) (x3 _ _ h1) rfl rfl : Ev _ _ H3 _) H3 (Ex.refl H3) _ (fun H4 e4 => ?_)⟩
        have x4 := x3.trans e4
        refine (ixk (σ9 := [some (.ref a), none, none, none, none, none, none, none]) (i := 2) (v := ro.v) (x4 _ _ h1) rfl rfl : Ev _ _ H4 _) H4 (Ex.refl H4) _ (fun H5 e5 => ?_)
        have x5 := x4.trans e5
        refine (ixk (σ9 := [some (.ref a), none, none, none, none, none, none, none]) (i := 3) (v := .ref b) (x5 _ _ h1) rfl rfl : Ev _ _ H5 _) H5 (Ex.refl H5) _ (fun H6 e6 => ?_)
        have x6 := x5.trans e6
        refine ⟨b, y, rfl, h2.ex x6, aly, by omega, by omega, by omega, fun c H7 hc e7 h7 => ?_⟩
        have x7 := x6.trans e7
        refine (ixk (σ9 := [some (.ref a), none, none, none, none, none, none, none]) (i := 4) (v := .ref b') (x7 _ _ h1) rfl rfl : Ev _ _ H7 _) H7 (Ex.refl H7) _ (fun H8 e8 => ?_)
        have x8 := x7.trans e8
        refine ⟨b', n, rfl, h3.ex x8, aln, by omega, by omega, by omega, fun c' H9 hc' e9 h9 => ?_⟩
        have x9 := x8.trans e9
        refine ⟨lo, ro, c, c', y, n, rfl, opdOk_ok hl, opdOk_ok hr', h7.ex (e8.trans e9), h9, fun _ c2 H10 hc2 e10 h10 => q c2 H10 (fresh_back x9 hc2) (x9.trans e10) h10, fun f hf => by
          rw [bw_none hl hr' (by omega) (by omega)] at hf
          cases hf⟩
      | call n ops =>
        unfold TrAt at ht
        obtain ⟨u, h1, h2⟩ := ht
        unfold AlP at hal
        obtain ⟨hn, hol, hoo⟩ := hal
        refine q_when (b := false) (et_is (et_test (ev_op (ixk h1 rfl rfl) ev_c (rv_eq rfl))) kL_C) (fun hb => nomatch hb) (fun _ H1 e1 => ?_)
        refine q_when (b := false) (et_is (et_test (ev_op (ixk (e1 _ _ h1) rfl rfl) ev_c (rv_eq rfl))) kL_N) (fun hb => nomatch hb) (fun _ H2 e2 => ?_)
        have x2 := e1.trans e2
        refine q_when (b := false) (et_is (et_test (ev_op (ixk (x2 _ _ h1) rfl rfl) ev_c (rv_eq rfl))) kL_I) (fun hb => nomatch hb) (fun _ H3 e3 => ?_)
        have x3 := x2.trans e3
        refine ⟨rfl, (ixk (σ9 := [some (.ref a), none, none, none, none, none, none, none]) (i := 1) (v := .str n) (x3 _ _ h1) rfl rfl : Ev _ _ H3 _) H3 (Ex.refl H3) _ (fun H4 e4 => ?_)⟩
        have x4 := x3.trans e4
        refine (ixk (σ9 := [some (.ref a), none, none, none, none, none, none, none]) (i := 2) (v := .ref u) (x4 _ _ h1) rfl rfl : Ev _ _ H4 _) H4 (Ex.refl H4) _ (fun H5 e5 => ?_)
        have x5 := x4.trans e5
        refine ⟨u, _, rfl, .inl (sq_of (x5 _ _ h2)), fun lu hlu => ?_⟩
        refine ⟨n, lu, ops, rfl, by have := hn.len; omega, .inl upd_same, by omega, (fun o ho => opdOk_ok (hoo o ho)), fun _ c2 H7 hc2 e7 h7 => q c2 H7 (fresh_back x5 (fresh_back (Ex.new hlu) hc2)) ((x5.trans (Ex.new hlu)).trans e7) h7, fun f hf => by
          rw [bc_none hn hol hoo] at hf
          cases hf⟩
end
end Fs

set_option Elab.async false
set_option linter.all false
set_option maxRecDepth 100000
set_option maxHeartbeats 8000000
namespace Fs
open PySem L2 Evl FsE FsC FsR FsT FsK
/-- str of an int or a text -/
abbrev rStr : List V → Hp → VK → Prop := fun xs H Q => (∃ i, xs = [V.int i] ∧ i.natAbs.log2 < 1920 ∧ Q (.str (toString i)) H) ∨ ∃ a, xs = [V.str a] ∧ Q (.str a) H
theorem call_strX {X : Cx} : CallR X (.type "str") rStr := by
  intro pins s σ H xs us Q I r h
  rcases h with h | h
  · exact call_str_int pins s σ H xs us Q I r h
  · exact SkE.call_str_str pins s σ H xs us Q I r h
def opS : Opd → Str
  | .int i => Str.ofString (toString i)
  | .nm z => z
theorem log_ok {i : Int} (h : -(10 ^ 30) < i ∧ i < 10 ^ 30) : i.natAbs.log2 < 1920 := by
  have h1 : i.natAbs < 10 ^ 30 := by omega
  by_cases h0 : i.natAbs = 0
  · rw [h0]
    decide
  · rw [Nat.log2_lt h0]
    exact Nat.lt_trans h1 (by decide)
theorem int_len {i : Int} (h : -(10 ^ 30) < i ∧ i < 10 ^ 30) : (Str.ofString (toString i)).length ≤ 31 := by
  rw [ofString_length]
  exact int_text_length_le10 (k := 30) (by decide) (by omega)
theorem opS_len {o : Opd} (h : OpdOk o) : (opS o).length ≤ 31 := by
  cases o with
  | int i => exact int_len h
  | nm z =>
    show z.length ≤ 31
    have := h.len
    omega
theorem rc_strO {o : Opd} (h : OpdOk o) {H : Hp} : RC rStr [o.v] H (.str (opS o)) := fun H1 _ Q q => by
  cases o with
  | int i => exact .inl ⟨i, rfl, log_ok h, q H1 (Ex.refl H1)⟩
  | nm z => exact .inr ⟨z, rfl, q H1 (Ex.refl H1)⟩
theorem rc_strI {i : Int} (h : -(10 ^ 30) < i ∧ i < 10 ^ 30) {H : Hp} : RC rStr [.int i] H (.str (Str.ofString (toString i))) := fun H1 _ Q q => .inl ⟨i, rfl, log_ok h, q H1 (Ex.refl H1)⟩
abbrev iS (i : Int) : Str := Str.ofString (toString i)
/-- between brackets -/
def tkB (xs : List Str) : List Str := (["("] : List Str) ++ xs ++ ([")"] : List Str)
/-- an offer's tokens ahead of its rest -/
def tkH (c : Str) (s m : Int) (op : Opd) (ns : List Str) : List Str := ([c, iS s, "/", iS m, "put", opS op] : List Str) ++ (["get"] : List Str) ++ tkB ns ++ (["then"] : List Str)
theorem tkB_len (xs : List Str) : (tkB xs).length = xs.length + 2 := by
  unfold tkB
  simp only [List.length_append, List.length_cons, List.length_nil]
  omega
theorem tkH_len {c : Str} {s m : Int} {op : Opd} {ns : List Str} : (tkH c s m op ns).length = ns.length + 10 := by
  unfold tkH
  simp only [List.length_append, List.length_cons, List.length_nil, tkB_len]
  omega
mutual
/-- the tokens -/
def tkP : Pr → List Str
  | .choice .nil => (["stop"] : List Str)
  | .choice (.cons c s m op ns r os) => (["["] : List Str) ++ ((tkH c s m op ns ++ tkP r) ++ tkOs os) ++ (["]"] : List Str)
  | .new n k r => (["new", n, iS k] : List Str) ++ tkP r
  | .cond l r y n => (["if", opS l, "=", opS r, "then"] : List Str) ++ tkP y ++ (["else"] : List Str) ++ tkP n
  | .call n ops => [n] ++ tkB (ops.map opS)
def tkOs : Ofs → List Str
  | .nil => []
  | .cons c s m op ns r os => (["+"] : List Str) ++ (tkH c s m op ns ++ tkP r) ++ tkOs os
end
def tkO (c : Str) (s m : Int) (op : Opd) (ns : List Str) (r : Pr) : List Str := tkH c s m op ns ++ tkP r
theorem tkOs_app : ∀ a b : Ofs, tkOs (a.app b) = tkOs a ++ tkOs b
  | .nil, b => by
    show tkOs b = tkOs .nil ++ tkOs b
    rw [tkOs]
    rfl
  | .cons c s m op ns r os, b => by
    show tkOs (.cons c s m op ns r (os.app b)) = tkOs (.cons c s m op ns r os) ++ tkOs b
    rw [tkOs, tkOs, tkOs_app os b]
    simp only [List.append_assoc]
theorem tkOs_one {c : Str} {s m : Int} {op : Opd} {ns : List Str} {r : Pr} : tkOs (.cons c s m op ns r .nil) = (["+"] : List Str) ++ tkO c s m op ns r := by
  rw [tkOs, tkOs, List.append_nil]
  rfl
theorem tkP_ch {os : Ofs} (h : 0 < os.len) : tkP (.choice os) = (["["] : List Str) ++ (tkOs os).drop 1 ++ (["]"] : List Str) := by
  cases os with
  | nil => exact absurd h (by decide)
  | cons c s m op ns r os =>
    rw [tkP, tkOs]
    rfl
/-- few -/
theorem ns_len {c : Str} {s m : Int} {op : Opd} {ns : List Str} (h : OfOk c s m op ns) : ns.length ≤ 3 := by
  have h1 := h.nl
  have h2 := h.m4
  omega
mutual
theorem tkP_len : ∀ p : Pr, AlP p → ((tkP p).length : Int) ≤ 30 * p.size
  | .choice .nil, _ => by
    have := Pr.size_pos (.choice .nil)
    rw [tkP]
    show ((1 : Nat) : Int) ≤ _
    omega
  | .choice (.cons c s m op ns r os), h => by
    unfold AlP AlO at h
    obtain ⟨_, h1, h2, h3⟩ := h
    have e1 := tkP_len r h2
    have e2 := tkOs_len os h3
    have e3 := ns_len h1
    have e4 : (Ofs.cons c s m op ns r os).sum = r.size + os.sum := by rw [Ofs.sum]
    have e5 := (ch_num (.cons c s m op ns r os)).2
    have e6 : (Ofs.cons c s m op ns r os).len = os.len + 1 := rfl
    rw [tkP, e5, e4, e6]
    simp only [List.length_append, List.length_cons, List.length_nil, tkH_len, tkB_len]
    omega
  | .new n k r, h => by
    unfold AlP at h
    have e1 := tkP_len r h.2.2.2
    have e2 : (Pr.new n k r).size = 1 + r.size := by rw [Pr.size]
    rw [tkP, e2]
    simp only [List.length_append, List.length_cons, List.length_nil, tkH_len, tkB_len]
    omega
  | .cond l r y n, h => by
    unfold AlP at h
    have e1 := tkP_len y h.2.2.1
    have e2 := tkP_len n h.2.2.2
    have e3 : (Pr.cond l r y n).size = 1 + (y.size + n.size) := by rw [Pr.size]
    rw [tkP, e3]
    simp only [List.length_append, List.length_cons, List.length_nil, tkH_len, tkB_len]
    omega
  | .call n ops, h => by
    unfold AlP at h
    have e1 := h.2.1
    have e2 : (Pr.call n ops).size = 1 := by rw [Pr.size]
    rw [tkP, e2]
    simp only [List.length_append, List.length_cons, List.length_nil, List.length_map, tkB_len]
    omega
theorem tkOs_len : ∀ os : Ofs, AlO os → ((tkOs os).length : Int) ≤ 15 * (os.len : Int) + 30 * os.sum
  | .nil, _ => by
    rw [tkOs, Ofs.sum]
    decide
  | .cons c s m op ns r os, h => by
    unfold AlO at h
    obtain ⟨h1, h2, h3⟩ := h
    have e1 := tkP_len r h2
    have e2 := tkOs_len os h3
    have e3 := ns_len h1
    have e4 : (Ofs.cons c s m op ns r os).sum = r.size + os.sum := by rw [Ofs.sum]
    have e6 : (Ofs.cons c s m op ns r os).len = os.len + 1 := rfl
    rw [tkOs, e4, e6]
    simp only [List.length_append, List.length_cons, List.length_nil, tkH_len, tkB_len]
    omega
end
def spBr : Sp := fun vs H Q _ => ∃ (u : Addr) (ops : List Opd), vs = [.ref u] ∧ H u = some (.tup (ops.map Opd.v)) ∧ ops.length ≤ 100 ∧ (∀ o ∈ ops, OpdOk o) ∧ RetL ((tkB (ops.map opS)).map V.str) H Q
def spPT (C : Addr) (d : Nat) : Sp := fun vs H Q _ => ∃ (a : Addr) (p : Pr), vs = [.ref a] ∧ PrAt C H a p ∧ AlP p ∧ p.depth ≤ (d : Int) ∧ p.size ≤ 400 ∧ RetL ((tkP p).map V.str) H Q
def spOT (C : Addr) (d : Nat) : Sp := fun vs H Q _ => ∃ (o u b : Addr) (c : Str) (s m : Int) (op : Opd) (ns : List Str) (r : Pr), vs = [.ref o] ∧ H o = some (.tup [.str c, .int s, .int m, op.v, .ref u, .ref b]) ∧ H u = some (.tup (ns.map V.str)) ∧ PrAt C H b r ∧ OfOk c s m op ns ∧ (∀ y ∈ ns, WordOk y ∨ y.length ≤ 8) ∧ AlP r ∧ r.depth ≤ (d : Int) ∧ r.size ≤ 400 ∧ RetL ((tkO c s m op ns r).map V.str) H Q
def spCT (C : Addr) (d : Nat) : Sp := fun vs H Q _ => ∃ (t : Addr) (xs : List V) (os : Ofs), vs = [.ref t] ∧ H t = some (.tup xs) ∧ OfsAt C H xs os ∧ AlP (.choice os) ∧ os.depth ≤ (d : Int) ∧ os.sum ≤ 400 ∧ RetL ((tkP (.choice os)).map V.str) H Q
section
variable {σ : L2.St} {H : Hp} {ta tb te : TE} {K : PySem.W.Frag}
theorem mapS {xs ys : List Str} : xs.map V.str ++ ys.map V.str = (xs ++ ys).map V.str := List.map_append.symm
theorem el_catS {xs ys : List Str} (ha : EvL ta σ H (xs.map V.str)) (hb : EvL tb σ H (ys.map V.str)) (hz : xs.length + ys.length ≤ 100000) : EvL (tOp rCat ta tb) σ H ((xs ++ ys).map V.str) :=
  el_is (el_catLL ha hb (by rw [List.length_map, List.length_map, sizeLine_eq]; omega)) mapS
end
section
variable {P : Program} {w : World} {K : PySem.W.Frag} {mg : Str → Option Value} {base : Heap} {C CB : Addr}
theorem scBr : FnScope ["operands", "operand"] ["operands"] (defScope (topS 45)) := ⟨rfl, rfl, rfl, by decide +kernel, rfl, by decide +kernel, by decide +kernel⟩
theorem ok_br {f : Addr} {fd : FuncData} (F : Fun K "bracketed" "bracketed" (topS 45) f fd) (hstr : mg "str" = none) : FnOk P w K mg base CX0 1 f fd ["operands"] spBr := by
  refine F.ok scBr (fun vs H Q E h => ?_) (fun cdv A outer s H vs Q E hr h => ?_)
  · obtain ⟨u, ops, rfl, _⟩ := h
    rfl
  · obtain ⟨u, ops, rfl, hu, hl, ho, q⟩ := h
    refine ⟨_, pss_one (ps_ret (pe_op op_cat (pe_op op_cat (pe_lst (pa_cons pe_str pa_nil)) (pe_lc (own := [("operand", 1)]) (g := gName 1) (tt := tYes) (te := tCB rStr (tCons (tVar 1) tNil)) rfl scBr.nd (pi_tup (pv 0)) (blkOk_by (own := [("operand", 1)]) (N := ["operands", "operand"]) (sc := defScope (topS 45)) (by decide +kernel))
          (fun _ _ _ _ _ => pg_name (i := 1) scBr.nd rfl (Or.inl rfl)) (fun _ _ _ _ _ => pts_nil) (fun _ _ _ _ _ => pe_callTy call_strX (by rfl) hstr (by decide +kernel) (pa_cons (pv 1) pa_nil)))) (pe_lst (pa_cons pe_str pa_nil)))), ?_⟩
    refine s_retL (el_catS (xs := (["("] : List Str) ++ ops.map opS) (ys := ([")"] : List Str)) (el_catS (xs := (["("] : List Str)) (ys := ops.map opS) (el_lst (ea_cons ev_c ea_nil) (by show 1 ≤ 100000; decide)) ?_ ?_) (el_lst (ea_cons ev_c ea_nil) (by show 1 ≤ 100000; decide)) ?_) q
    · refine el_lcTy (ev_var rfl) (st_of hu) (by rw [List.length_map]; omega) (fun _ => rfl) (by rw [List.length_map, List.length_map, List.length_map]) (fun i x y H1 e hx hy => ?_)
      rw [List.map_map, List.getElem?_map] at hy
      rw [List.getElem?_map] at hx
      cases hoi : ops[i]? with
      | none =>
        rw [hoi] at hx
        cases hx
      | some o =>
        rw [hoi] at hx hy
        cases hx
        cases hy
        exact ev_cb (ea_cons (ev_var rfl) ea_nil) (rc_strO (ho o (List.mem_of_getElem? hoi)))
    · show 1 + (ops.map opS).length ≤ 100000
      rw [List.length_map]
      omega
    · rw [List.length_append, List.length_map]
      show 1 + ops.length + 1 ≤ 100000
      omega
end
end Fs

set_option Elab.async false
set_option linter.all false
set_option maxRecDepth 100000
set_option maxHeartbeats 8000000
namespace Fs
open PySem L2 Evl FsE FsC FsR FsT FsK
theorem iOk {i : Int} (h0 : 0 ≤ i) (h1 : i ≤ 100) : -(10 ^ 30) < i ∧ i < 10 ^ 30 := by
  constructor <;> omega
section
variable {σ : L2.St} {H : Hp} {ta tb te : TE} {tas : TA} {K : PySem.W.Frag} {C : Addr} {E : L2.St → XK}
theorem el_catV {l : Addr} {xs ys : List V} (ha : Ev ta σ H (.ref l)) (hl : H l = some (.lst xs)) (hb : EvL tb σ H ys) (hz : xs.length + ys.length ≤ sizeLine) : EvL (tOp rCat ta tb) σ H (xs ++ ys) := fun H1 e Q q =>
  ha H1 e _ fun H2 e2 => hb H2 (e.trans e2) _ fun p H3 hp e3 h3 => ⟨l, p, xs, ys, rfl, rfl, e3 _ _ (e2 _ _ (e _ _ hl)), h3, hz, fun r hr => q r _ (fresh_back (e2.trans e3) hr) ((e2.trans e3).trans (Ex.new hr)) upd_same⟩
theorem el_br {u : Addr} {ops : List Opd} (h : EvA tas σ H [.ref u]) (hu : H u = some (.tup (ops.map Opd.v))) (hl : ops.length ≤ 100) (ho : ∀ o ∈ ops, OpdOk o) : EvL (tCallS spBr E tas) σ H ((tkB (ops.map opS)).map V.str) := el_cx h fun H1 e1 Q q E => ⟨u, ops, rfl, e1 _ _ hu, hl, ho, q⟩
theorem el_pt {d : Nat} {a : Addr} {p : Pr} (h : EvA tas σ H [.ref a]) (hp : PrAt C H a p) (al : AlP p) (hd : p.depth ≤ (d : Int)) (hs : p.size ≤ 400) : EvL (tCallS (spPT C d) E tas) σ H ((tkP p).map V.str) := el_cx h fun H1 e1 Q q E => ⟨a, p, rfl, hp.ex e1, al, hd, hs, q⟩
theorem q_unp6 {a : Addr} {x1 x2 x3 x4 x5 x6 : V} {i1 i2 i3 i4 i5 i6 : Nat} {tz : TS} {D : Ends} (h : Ev ta σ H (.ref a)) (hx : H a = some (.tup [x1, x2, x3, x4, x5, x6])) (σ' : L2.St)
    (hσ : (((((σ.set i1 (some x1)).set i2 (some x2)).set i3 (some x3)).set i4 (some x4)).set i5 (some x5)).set i6 (some x6) = σ') (k : ∀ H1, Ex H H1 → tz D σ' H1) : tSeq (tAsg ta (gTup K 6 (gCons (gName i1) (gCons (gName i2) (gCons (gName i3) (gCons (gName i4) (gCons (gName i5) (gCons (gName i6) gNil)))))))) tz D σ H := by
  subst hσ
  exact h H (Ex.refl H) _ fun H1 e1 => ⟨a, _, rfl, st_of (e1 _ _ hx), rfl, _, _, rfl, _, _, rfl, _, _, rfl, _, _, rfl, _, _, rfl, _, _, rfl, rfl, k H1 e1⟩
theorem q_unp4 {a : Addr} {x1 x2 x3 x4 : V} {i1 i2 i3 i4 : Nat} {tz : TS} {D : Ends} (h : Ev ta σ H (.ref a)) (hx : H a = some (.tup [x1, x2, x3, x4])) (σ' : L2.St)
    (hσ : (((σ.set i1 (some x1)).set i2 (some x2)).set i3 (some x3)).set i4 (some x4) = σ') (k : ∀ H1, Ex H H1 → tz D σ' H1) : tSeq (tAsg ta (gTup K 4 (gCons (gName i1) (gCons (gName i2) (gCons (gName i3) (gCons (gName i4) gNil)))))) tz D σ H := by
  subst hσ
  exact h H (Ex.refl H) _ fun H1 e1 => ⟨a, _, rfl, st_of (e1 _ _ hx), rfl, _, _, rfl, _, _, rfl, _, _, rfl, _, _, rfl, rfl, k H1 e1⟩
theorem q_unp3 {a : Addr} {x1 x2 x3 : V} {i1 i2 i3 : Nat} {tz : TS} {D : Ends} (h : Ev ta σ H (.ref a)) (hx : H a = some (.tup [x1, x2, x3])) (σ' : L2.St)
    (hσ : ((σ.set i1 (some x1)).set i2 (some x2)).set i3 (some x3) = σ') (k : ∀ H1, Ex H H1 → tz D σ' H1) : tSeq (tAsg ta (gTup K 3 (gCons (gName i1) (gCons (gName i2) (gCons (gName i3) gNil))))) tz D σ H := by
  subst hσ
  exact h H (Ex.refl H) _ fun H1 e1 => ⟨a, _, rfl, st_of (e1 _ _ hx), rfl, _, _, rfl, _, _, rfl, _, _, rfl, rfl, k H1 e1⟩
theorem q_unp2 {a : Addr} {x1 x2 : V} {i1 i2 : Nat} {tz : TS} {D : Ends} (h : Ev ta σ H (.ref a)) (hx : H a = some (.tup [x1, x2])) (σ' : L2.St)
    (hσ : (σ.set i1 (some x1)).set i2 (some x2) = σ') (k : ∀ H1, Ex H H1 → tz D σ' H1) : tSeq (tAsg ta (gTup K 2 (gCons (gName i1) (gCons (gName i2) gNil)))) tz D σ H := by
  subst hσ
  exact h H (Ex.refl H) _ fun H1 e1 => ⟨a, _, rfl, st_of (e1 _ _ hx), rfl, _, _, rfl, _, _, rfl, rfl, k H1 e1⟩
end
theorem nmsV (ns : List Str) : (ns.map Opd.nm).map Opd.v = ns.map V.str := by rw [List.map_map]; rfl
theorem nmsS (ns : List Str) : (ns.map Opd.nm).map opS = ns := by rw [List.map_map]; exact List.map_id' ns
section
variable {P : Program} {w : World} {K : PySem.W.Frag} {mg : Str → Option Value} {base : Heap} {C CB : Addr}
/-- what the names of an offer are -/
theorem of_nms {c : Str} {s m : Int} {op : Opd} {ns : List Str} (h : OfOk c s m op ns) : ∀ y ∈ ns, WordOk y := fun y hy => by
  have hall := h.nd
  unfold namesS at hall
  have h1 := (Bool.and_eq_true_iff.mp hall).1
  have h2 := List.all_eq_true.mp h1 (nameS y) (List.mem_map_of_mem hy)
  exact ⟨h2, (h.nz y hy).1, (h.nz y hy).2⟩
abbrev nsOT : List Str := ["offer", "channel", "seat", "seats", "operand", "names", "rest", "given"]
theorem scOT : FnScope nsOT ["offer"] (defScope (topS 44)) := ⟨rfl, rfl, rfl, by decide +kernel, rfl, by decide +kernel, by decide +kernel⟩
theorem ok_ot {f : Addr} {fd : FuncData} {k d : Nat} (F : Fun K "offer_tokens" "offer_tokens" (topS 44) f fd) (hstr : mg "str" = none) (GB : CalX P w K mg base CX0 1 "bracketed" spBr) (GP : CalX P w K mg base CX0 k "process_tokens" (spPT C d)) (hk : 1 ≤ k) : FnOk P w K mg base CX0 (k + 1) f fd ["offer"] (spOT C d) := by
  refine F.ok scOT (fun vs H Q E h => ?_) (fun cdv A outer s H vs Q E hr h => ?_)
  · obtain ⟨o, u, b, c, s, m, op, ns, r, rfl, _⟩ := h
    rfl
  · obtain ⟨o, u, b, c, s, m, op, ns, r, rfl, ho, hu, hb, ok, _, al, hd, hs, q⟩ := h
    refine ⟨_, pss_cons (ps_asg (pv 0) (pg_tup rfl (pgs_cons (pg_name (i := 1) scOT.nd rfl (.inl rfl)) (pgs_cons (pg_name (i := 2) scOT.nd rfl (.inl rfl)) (pgs_cons (pg_name (i := 3) scOT.nd rfl (.inl rfl)) (pgs_cons (pg_name (i := 4) scOT.nd rfl (.inl rfl)) (pgs_cons (pg_name (i := 5) scOT.nd rfl (.inl rfl)) (pgs_cons (pg_name (i := 6) scOT.nd rfl (.inl rfl)) pgs_nil))))))))
      (pss_cons (ps_set (i := 7) scOT.nd rfl (Or.inl rfl) (pe_lst (pa_cons (pv 1) (pa_cons (pe_callTy call_strX (by rfl) hstr (by decide +kernel) (pa_cons (pv 2) pa_nil)) (pa_cons pe_str (pa_cons (pe_callTy call_strX (by rfl) hstr (by decide +kernel) (pa_cons (pv 3) pa_nil)) (pa_cons pe_str (pa_cons (pe_callTy call_strX (by rfl) hstr (by decide +kernel) (pa_cons (pv 4) pa_nil)) pa_nil))))))))
      (pss_one (ps_ret (pe_op op_cat (pe_op op_cat (pe_op op_cat (pe_op op_cat (pv 7) (pe_lst (pa_cons pe_str pa_nil))) (pe_cx (E := fun _ => E0) GB hr hk (by rfl) at0 (pa_cons (pv 5) pa_nil))) (pe_lst (pa_cons pe_str pa_nil))) (pe_cx (E := fun _ => E0) GP hr (Nat.le_refl _) (by rfl) at0 (pa_cons (pv 6) pa_nil)))))), ?_⟩
    refine q_unp6 (ev_var rfl) ho [some (.ref o), some (.str c), some (.int s), some (.int m), some op.v, some (.ref u), some (.ref b), none] rfl (fun H1 e1 => ?_)
    have hm := ok.m4
    have hm1 := ok.m1
    have hs0 := ok.s0
    have hs1 := ok.s1
    refine q_asgL (xs := ([c, iS s, "/", iS m, "put", opS op] : List Str).map V.str) (el_lst (ea_cons (ev_var rfl) (ea_cons (ev_cb (ea_cons (ev_var rfl) ea_nil) (rc_strI (iOk hs0 (by omega)))) (ea_cons ev_c (ea_cons (ev_cb (ea_cons (ev_var rfl) ea_nil) (rc_strI (iOk (by omega) (by omega)))) (ea_cons ev_c (ea_cons (ev_cb (ea_cons (ev_var rfl) ea_nil) (rc_strO ok.op)) ea_nil)))))) (by show 6 ≤ 100000; decide)) (fun l H2 hl e2 h2 => ?_)
    have x2 := e1.trans e2
    have nl := ns_len ok
    have pl := tkP_len r al
    have bl : (tkB ns).length = ns.length + 2 := tkB_len ns
    have eb : EvL (tCallS spBr (fun _ => E0) (tCons (tVar 5) tNil)) [some (.ref o), some (.str c), some (.int s), some (.int m), some op.v, some (.ref u), some (.ref b), some (.ref l)] H2 ((tkB ns).map V.str) := by
      have g := el_br (E := fun _ => E0) (σ := [some (.ref o), some (.str c), some (.int s), some (.int m), some op.v, some (.ref u), some (.ref b), some (.ref l)]) (H := H2) (tas := tCons (tVar 5) tNil) (u := u) (ops := ns.map Opd.nm) (ea_cons (ev_var rfl) ea_nil) (by rw [nmsV]; exact x2 _ _ hu) (by rw [List.length_map]; omega) (fun x hx => by
        obtain ⟨y, hy, rfl⟩ := List.mem_map.mp hx
        exact of_nms ok y hy)
      rw [nmsS] at g
      exact g
    refine s_retL (el_catS (xs := ([c, iS s, "/", iS m, "put", opS op] : List Str) ++ (["get"] : List Str) ++ tkB ns ++ (["then"] : List Str)) (ys := tkP r) (el_catS (xs := ([c, iS s, "/", iS m, "put", opS op] : List Str) ++ (["get"] : List Str) ++ tkB ns) (ys := (["then"] : List Str))
      (el_catS (xs := ([c, iS s, "/", iS m, "put", opS op] : List Str) ++ (["get"] : List Str)) (ys := tkB ns) (el_is (el_catV (ev_var rfl) h2 (el_lst (vs := [V.str "get"]) (ea_cons ev_c ea_nil) (by show 1 ≤ 100000; decide)) (by show 6 + 1 ≤ sizeLine; decide)) rfl) eb (by rw [bl]; show 6 + 1 + _ ≤ 100000; omega))
      (el_lst (ea_cons ev_c ea_nil) (by show 1 ≤ 100000; decide)) ?_) (el_pt (C := C) (ea_cons (ev_var rfl) ea_nil) (hb.ex x2) al hd hs) ?_) (fun p H3 hp e3 h3 => q p H3 (fresh_back x2 hp) (x2.trans e3) h3)
    · rw [List.length_append, bl]
      show 6 + 1 + _ + 1 ≤ 100000
      omega
    · rw [List.length_append, List.length_append, bl]
      show 6 + 1 + _ + 1 + _ ≤ 100000
      omega
end
end Fs

set_option Elab.async false
set_option linter.all false
set_option maxRecDepth 100000
set_option maxHeartbeats 8000000
namespace Fs
open PySem L2 Evl FsE FsC FsR FsT FsK
section
variable {σ : L2.St} {H : Hp} {ta tb te : TE} {tas : TA} {K : PySem.W.Frag} {C : Addr} {E : L2.St → XK}
theorem et_truT {a : Addr} {xs : List V} (h : Ev ta σ H (.ref a)) (hx : H a = some (.tup xs)) : EvT (fun σ H Q => ta σ H fun x H' => ∃ k, TruV K x H' k ∧ Q k H') σ H (!xs.isEmpty) := fun H1 e _ q =>
  h H1 e _ fun H2 e2 => ⟨_, .inr (.inl ⟨xs, st_of ((e.trans e2) _ _ hx), rfl⟩), q H2 e2⟩
theorem el_ot {d : Nat} {o u b : Addr} {c : Str} {s m : Int} {op : Opd} {ns : List Str} {r : Pr} (h : EvA tas σ H [.ref o]) (ho : H o = some (.tup [.str c, .int s, .int m, op.v, .ref u, .ref b])) (hu : H u = some (.tup (ns.map V.str))) (hb : PrAt C H b r) (ok : OfOk c s m op ns) (al : AlP r) (hd : r.depth ≤ (d : Int)) (hs : r.size ≤ 400) :
    EvL (tCallS (spOT C d) E tas) σ H ((tkO c s m op ns r).map V.str) := el_cx h fun H1 e1 Q q E => ⟨o, u, b, c, s, m, op, ns, r, rfl, e1 _ _ ho, e1 _ _ hu, hb.ex e1, ok, (fun y hy => .inr (ok.nz y hy).1), al, hd, hs, q⟩
end
theorem cut1 {xs : List V} (h : 1 ≤ xs.length) : cutV xs (some 1) none = xs.drop 1 := by
  unfold cutV
  rw [HT.sIx_none, show (some (1 : Int)) = some ((1 : Nat) : Int) from rfl, HT.sIx_nat, Nat.min_eq_left h]
  exact List.take_of_length_le (by rw [List.length_drop]; exact Nat.le_refl _)
theorem cut1S {xs : List Str} (h : 1 ≤ xs.length) : cutV (xs.map V.str) (some 1) none = (xs.drop 1).map V.str := by
  rw [cut1 (by rw [List.length_map]; exact h), List.map_drop]
section
variable {P : Program} {w : World} {K : PySem.W.Frag} {mg : Str → Option Value} {base : Heap} {C CB : Addr}
theorem scCT : FnScope ["offers", "tokens", "offer"] ["offers"] (defScope (topS 43)) := ⟨rfl, rfl, rfl, by decide +kernel, rfl, by decide +kernel, by decide +kernel⟩
theorem ok_ct {f : Addr} {fd : FuncData} {k d : Nat} (F : Fun K "choice_tokens" "choice_tokens" (topS 43) f fd) (GO : CalX P w K mg base CX0 k "offer_tokens" (spOT C d)) : FnOk P w K mg base CX0 (k + 1) f fd ["offers"] (spCT C d) := by
  refine F.ok scCT (fun vs H Q E h => ?_) (fun cdv A outer s H vs Q E hr h => ?_)
  · obtain ⟨t, xs, os, rfl, _⟩ := h
    rfl
  · obtain ⟨t, xs, os, rfl, ht, hof, al, hd, hs, q⟩ := h
    refine ⟨_, pss_cons (ps_if (pt_not (pt_truth (pv 0) (fun _ => rfl))) (pss_one (ps_ret (pe_lst (pa_cons pe_str pa_nil)))) pss_nil)
      (pss_cons (ps_set (i := 1) scCT.nd rfl (Or.inl rfl) (pe_lst pa_nil))
      (pss_cons (ps_for PassesOwn.never rfl (pi_tup (pv 0)) (pg_name (i := 2) scCT.nd rfl (Or.inl rfl))
        (pss_one (ps_set (i := 1) scCT.nd rfl (Or.inl rfl) (pe_op op_cat (pe_op op_cat (pv 1) (pe_lst (pa_cons pe_str pa_nil))) (pe_cx (E := fun _ => E0) GO hr (Nat.le_refl _) (by rfl) at0 (pa_cons (pv 2) pa_nil))))))
      (pss_one (ps_ret (pe_op op_cat (pe_op op_cat (pe_lst (pa_cons pe_str pa_nil)) (pe_slice sl_list (pv 1) (po_some pe_int) po_none)) (pe_lst (pa_cons pe_str pa_nil))))))), ?_⟩
    unfold AlP at al
    obtain ⟨hlen, hao⟩ := al
    cases hos0 : os with
    | nil =>
      subst hos0
      unfold OfsAt at hof
      subst hof
      refine q_when (b := true) (et_not (a := false) (et_truT (ev_var rfl) ht)) (fun _ H1 e1 => ?_) (fun hb => nomatch hb)
      refine s_retL (xs := [V.str "stop"]) (el_lst (ea_cons ev_c ea_nil) (by show 1 ≤ 100000; decide)) (fun p H2 hp e2 h2 => q p H2 (fresh_back e1 hp) (e1.trans e2) ?_)
      rw [tkP]
      exact h2
    | cons c0 s0 m0 op0 ns0 r0 os0 =>
      have hpos : 0 < os.len := by rw [hos0]; exact Nat.succ_pos _
      have hxs : xs.isEmpty = false := by
        rw [hos0] at hof
        unfold OfsAt at hof
        obtain ⟨o, u, b, qs, rfl, _⟩ := hof
        rfl
      have htk : 1 ≤ (tkOs os).length := by
        rw [hos0, tkOs]
        simp only [List.length_append, List.length_cons, List.length_nil]
        omega
      clear hos0
      rw [tkP_ch hpos] at q
      have tl := tkOs_len os hao
      have hl6 : (os.len : Int) ≤ 6 := by omega
      refine q_when (b := false) (et_not (a := true) (by have g := et_truT (K := K) (σ := [some (.ref t), none, none]) (ta := tVar 0) (H := H) (ev_var rfl) ht; rw [hxs] at g; exact g)) (fun hb => nomatch hb) (fun _ H1 e1 => ?_)
      refine q_asgL (xs := []) (el_lst ea_nil (by show 0 ≤ 100000; decide)) (fun l0 H2 hl0 e2 h2 => ?_)
      have x2 := e1.trans e2
      refine q_forT (a := t) (xs := xs) (ev_var rfl) (st_of (x2 _ _ ht)) (fun i σ' H' => ∃ (l : Addr) (pre post : Ofs) (v2 : Option V), σ' = [some (.ref t), some (.ref l), v2] ∧ os = pre.app post ∧ OfsAt C H' (xs.drop i) post ∧ H' l = some (.lst ((tkOs pre).map V.str)) ∧ Ex H H')
        (fun H3 e3 => ⟨l0, .nil, os, _, rfl, rfl, hof.ex (x2.trans e3), by rw [tkOs]; exact e3 _ _ h2, x2.trans e3⟩) (fun i σ' H' _ ⟨_, _, _, _, _, _, _, _, he⟩ => st_of (he _ _ ht)) (fun i x σ' H' hx ⟨l, pre, post, v2, hσ, hos, hof, hl, he⟩ => ?_) (fun σ' H' ⟨l, pre, post, v2, hσ, hos, hof, hl, he⟩ => ?_)
      · subst hσ
        have hd0 : (xs.drop i)[0]? = some x := by rw [List.getElem?_drop, Nat.add_zero]; exact hx
        cases post with
        | nil =>
          unfold OfsAt at hof
          rw [hof] at hd0
          cases hd0
        | cons ch s m op ns r post =>
          unfold OfsAt at hof
          obtain ⟨o, u, b2, qs, hdr, ho, hu, htr, hof⟩ := hof
          rw [hdr] at hd0
          obtain rfl : x = .ref o := (Option.some.inj hd0).symm
          have hdr1 : xs.drop (i + 1) = qs := by rw [← List.drop_drop, hdr]; rfl
          rw [hos] at hao
          obtain ⟨ap, aq⟩ := AlO.app hao
          unfold AlO at aq
          obtain ⟨ofk, alr, alq⟩ := aq
          have eD : os.depth = max pre.depth (max r.depth post.depth) := by rw [hos, Ofs.app_depth, Ofs.depth]
          have eS : os.sum = pre.sum + (r.size + post.sum) := by rw [hos, Ofs.app_sum, Ofs.sum]
          have eL : os.len = pre.len + (post.len + 1) := by rw [hos, Ofs.app_len]; rfl
          have p1 := Ofs.sum_nn pre
          have p2 := Ofs.sum_nn post
          have p3 := Pr.size_pos r
          have t1 := tkOs_len pre ap
          have t2 := tkP_len r alr
          have t3 := ns_len ofk
          have t4 : (tkO ch s m op ns r).length = ns.length + 10 + (tkP r).length := by
            show (tkH ch s m op ns ++ tkP r).length = _
            rw [List.length_append, tkH_len]
          refine s_asgL (xs := ((tkOs pre ++ (["+"] : List Str)) ++ tkO ch s m op ns r).map V.str) (el_catS (xs := tkOs pre ++ (["+"] : List Str)) (ys := tkO ch s m op ns r) (el_is (el_catV (ev_var rfl) hl (el_lst (vs := [V.str "+"]) (ea_cons ev_c ea_nil) (by show 1 ≤ 100000; decide)) (by rw [List.length_map, sizeLine_eq]; show _ + 1 ≤ _; omega)) (mapS (ys := (["+"] : List Str))))
            (el_ot (C := C) (d := d) (ea_cons (ev_var rfl) ea_nil) ho hu htr ofk alr (by omega) (by omega)) (by rw [List.length_append, t4]; show _ + 1 + _ ≤ _; omega)) (fun l' H3 hl' e3 h3 => ?_)
          refine ⟨l', pre.app (.cons ch s m op ns r .nil), post, _, rfl, by rw [Ofs.app_assoc]; exact hos, by rw [hdr1]; exact hof.ex e3, ?_, he.trans e3⟩
          rw [tkOs_app, tkOs_one, ← List.append_assoc]
          exact h3
      · subst hσ
        rw [List.drop_length] at hof
        cases post with
        | nil =>
          rw [Ofs.app_nil] at hos
          subst hos
          refine s_retL (el_catS (xs := (["["] : List Str) ++ (tkOs os).drop 1) (ys := (["]"] : List Str)) (el_catS (xs := (["["] : List Str)) (ys := (tkOs os).drop 1) (el_lst (ea_cons ev_c ea_nil) (by show 1 ≤ 100000; decide)) (el_is (el_sl (ev_var rfl) (eo_some ev_c) eo_none (sq_of hl)) (cut1S htk)) ?_) (el_lst (ea_cons ev_c ea_nil) (by show 1 ≤ 100000; decide)) ?_) (fun p H3 hp e3 h3 => q p H3 (fresh_back he hp) (he.trans e3) h3)
          · rw [List.length_drop]
            show 1 + _ ≤ _
            omega
          · rw [List.length_append, List.length_drop]
            show 1 + _ + 1 ≤ _
            omega
        | cons ch s m op ns r post =>
          unfold OfsAt at hof
          obtain ⟨o, u, b2, qs, hdr, _⟩ := hof
          cases hdr
end
end Fs

set_option Elab.async false
set_option linter.all false
set_option maxRecDepth 100000
set_option maxHeartbeats 8000000
namespace Fs
open PySem L2 Evl FsE FsC FsR FsT FsK
section
variable {σ : L2.St} {H : Hp} {ta tb te : TE} {tas : TA} {K : PySem.W.Frag} {C : Addr} {E : L2.St → XK}
theorem el_ct {d : Nat} {t : Addr} {xs : List V} {os : Ofs} (h : EvA tas σ H [.ref t]) (ht : H t = some (.tup xs)) (hof : OfsAt C H xs os) (al : AlP (.choice os)) (hd : os.depth ≤ (d : Int)) (hs : os.sum ≤ 400) : EvL (tCallS (spCT C d) E tas) σ H ((tkP (.choice os)).map V.str) :=
  el_cx h fun H1 e1 Q q E => ⟨t, xs, os, rfl, e1 _ _ ht, hof.ex e1, al, hd, hs, q⟩
end
section
variable {P : Program} {w : World} {K : PySem.W.Frag} {mg : Str → Option Value} {base : Heap} {C CB : Addr}
abbrev nsPT : List Str := ["process", "name", "seats", "rest", "left", "right", "yes", "no", "test", "operands"]
theorem scPT : FnScope nsPT ["process"] (defScope (topS 42)) := ⟨rfl, rfl, rfl, by decide +kernel, rfl, by decide +kernel, by decide +kernel⟩
theorem ok_pt {f fo fc : Addr} {fd fdo fdc : FuncData} (F : Fun K "process_tokens" "process_tokens" (topS 42) f fd) (Fo : Fun K "offer_tokens" "offer_tokens" (topS 44) fo fdo) (Fc : Fun K "choice_tokens" "choice_tokens" (topS 43) fc fdc) (T : TerT K mg C CB) (hstr : mg "str" = none) (GB : CalX P w K mg base CX0 1 "bracketed" spBr)
    (hm : mg "process_tokens" = some (.ref f)) (kp : PySem.W.keepIn K (.ref f) = true) (bd : Binds K fd ["process"] []) (hmo : mg "offer_tokens" = some (.ref fo)) (kpo : PySem.W.keepIn K (.ref fo) = true) (bdo : Binds K fdo ["offer"] []) (hmc : mg "choice_tokens" = some (.ref fc)) (kpc : PySem.W.keepIn K (.ref fc) = true) (bdc : Binds K fdc ["offers"] []) :
    ∀ d : Nat, FnOk P w K mg base CX0 (1 + 3 * d) f fd ["process"] (spPT C d)
  | 0 => by
    refine F.ok scPT (fun vs H Q E h => ?_) (fun cdv A outer s H vs Q E hr h => ?_)
    · obtain ⟨a, p, rfl, _⟩ := h
      rfl
    · obtain ⟨a, p, rfl, _, _, hd, _⟩ := h
      have := Pr.depth_pos p
      exact absurd hd (by omega)
  | d + 1 => by
    have ih := ok_pt F Fo Fc T hstr GB hm kp bd hmo kpo bdo hmc kpc bdc d
    have GP : CalX P w K mg base CX0 (1 + 3 * d) "process_tokens" (spPT C d) := ⟨f, fd, _, ih, hm, kp, bd⟩
    have GO : CalX P w K mg base CX0 (1 + 3 * d + 1) "offer_tokens" (spOT C d) := ⟨fo, fdo, _, ok_ot Fo hstr GB GP (by omega), hmo, kpo, bdo⟩
    have GT : CalX P w K mg base CX0 (1 + 3 * d + 1 + 1) "choice_tokens" (spCT C d) := ⟨fc, fdc, _, ok_ct Fc GO, hmc, kpc, bdc⟩
    refine F.ok (k := 1 + 3 * d + 1 + 1) scPT (fun vs H Q E h => ?_) (fun cdv A outer s H vs Q E hr h => ?_)
    · obtain ⟨a, p, rfl, _⟩ := h
      rfl
    · obtain ⟨a, p, rfl, hp, al, hd, hs, q⟩ := h
      refine ⟨_, pss_cons (ps_if (pt_cmpR op_eq (pe_fld (pv 0) rfl) pe_str (nomark _)) (pss_one (ps_ret (pe_cx (E := fun _ => E0) GT hr (Nat.le_refl _) (by rfl) at0 (pa_cons (pe_fld (pv 0) rfl) pa_nil)))) pss_nil)
        (pss_cons (ps_if (pt_cmpR op_eq (pe_fld (pv 0) rfl) pe_str (nomark _))
          (pss_cons (ps_asg (pe_fld (pv 0) rfl) (pg_tup rfl (pgs_cons (pg_name (i := 1) scPT.nd rfl (.inl rfl)) (pgs_cons (pg_name (i := 2) scPT.nd rfl (.inl rfl)) (pgs_cons (pg_name (i := 3) scPT.nd rfl (.inl rfl)) pgs_nil)))))
          (pss_one (ps_ret (pe_op op_cat (pe_lst (pa_cons pe_str (pa_cons (pv 1) (pa_cons (pe_callTy call_strX (by rfl) hstr (by decide +kernel) (pa_cons (pv 2) pa_nil)) pa_nil)))) (pe_cx (E := fun _ => E0) GP hr (by omega) (by rfl) at0 (pa_cons (pv 3) pa_nil)))))) pss_nil)
        (pss_cons (ps_if (pt_cmpR op_eq (pe_fld (pv 0) rfl) pe_str (nomark _))
          (pss_cons (ps_asg (pe_fld (pv 0) rfl) (pg_tup rfl (pgs_cons (pg_name (i := 4) scPT.nd rfl (.inl rfl)) (pgs_cons (pg_name (i := 5) scPT.nd rfl (.inl rfl)) (pgs_cons (pg_name (i := 6) scPT.nd rfl (.inl rfl)) (pgs_cons (pg_name (i := 7) scPT.nd rfl (.inl rfl)) pgs_nil))))))
          (pss_cons (ps_set (i := 8) scPT.nd rfl (Or.inl rfl) (pe_lst (pa_cons pe_str (pa_cons (pe_callTy call_strX (by rfl) hstr (by decide +kernel) (pa_cons (pv 4) pa_nil)) (pa_cons pe_str (pa_cons (pe_callTy call_strX (by rfl) hstr (by decide +kernel) (pa_cons (pv 5) pa_nil)) (pa_cons pe_str pa_nil)))))))
          (pss_one (ps_ret (pe_op op_cat (pe_op op_cat (pe_op op_cat (pv 8) (pe_cx (E := fun _ => E0) GP hr (by omega) (by rfl) at0 (pa_cons (pv 6) pa_nil))) (pe_lst (pa_cons pe_str pa_nil))) (pe_cx (E := fun _ => E0) GP hr (by omega) (by rfl) at0 (pa_cons (pv 7) pa_nil))))))) pss_nil)
        (pss_cons (ps_asg (pe_fld (pv 0) rfl) (pg_tup rfl (pgs_cons (pg_name (i := 1) scPT.nd rfl (.inl rfl)) (pgs_cons (pg_name (i := 9) scPT.nd rfl (.inl rfl)) pgs_nil))))
        (pss_one (ps_ret (pe_op op_cat (pe_lst (pa_cons (pv 1) pa_nil)) (pe_cx (E := fun _ => E0) GB hr (by omega) (by rfl) at0 (pa_cons (pv 9) pa_nil)))))))), ?_⟩
      cases p with
      | choice os =>
        unfold PrAt at hp
        obtain ⟨t, xs, ⟨dx, h1⟩, h2, h3⟩ := hp
        obtain ⟨nd, nz⟩ := ch_num os
        rw [nd] at hd
        rw [nz] at hs
        refine q_when (b := true) (et_is (et_test (ev_op (ev_fld (ev_var rfl) h1 T.cl T.nK pf_kind) ev_c (rv_eq rfl))) kC_C) (fun _ H1 e1 => ?_) (fun hb => nomatch hb)
        exact s_retL (el_ct (C := C) (d := d) (ea_cons (ev_fld (ev_var rfl) (e1 _ _ h1) T.cl T.nP pf_parts) ea_nil) (e1 _ _ h2) (h3.ex e1) al (by omega) (by omega)) (fun p H2 hp e2 h2' => q p H2 (fresh_back e1 hp) (e1.trans e2) h2')
      | new n kk r =>
        unfold PrAt at hp
        obtain ⟨t, b, ⟨dx, h1⟩, h2, h3⟩ := hp
        have al0 := al
        unfold AlP at al
        obtain ⟨hn, k1, k4, alr⟩ := al
        have eD : (Pr.new n kk r).depth = 1 + r.depth := by rw [Pr.depth]
        have eS : (Pr.new n kk r).size = 1 + r.size := by rw [Pr.size]
        have tl := tkP_len r alr
        refine q_when (b := false) (et_is (et_test (ev_op (ev_fld (ev_var rfl) h1 T.cl T.nK pf_kind) ev_c (rv_eq rfl))) kN_C) (fun hb => nomatch hb) (fun _ H1 e1 => ?_)
        refine q_when (b := true) (et_is (et_test (ev_op (ev_fld (ev_var rfl) (e1 _ _ h1) T.cl T.nK pf_kind) ev_c (rv_eq rfl))) kN_N) (fun _ H2 e2 => ?_) (fun hb => nomatch hb)
        have x2 := e1.trans e2
        refine q_unp3 (ev_fld (ev_var rfl) (x2 _ _ h1) T.cl T.nP pf_parts) (x2 _ _ h2) [some (.ref a), some (.str n), some (.int kk), some (.ref b), none, none, none, none, none, none] rfl (fun H3 e3 => ?_)
        have x3 := x2.trans e3
        rw [tkP] at q
        exact s_retL (el_catS (xs := (["new", n, iS kk] : List Str)) (ys := tkP r) (el_lst (ea_cons ev_c (ea_cons (ev_var rfl) (ea_cons (ev_cb (ea_cons (ev_var rfl) ea_nil) (rc_strI (iOk (by omega) (by omega)))) ea_nil))) (by show 3 ≤ 100000; decide)) (el_pt (C := C) (d := d) (ea_cons (ev_var rfl) ea_nil) (h3.ex x3) alr (by omega) (by omega)) (by show 3 + _ ≤ _; omega)) (fun p H4 hp e4 h4 => q p H4 (fresh_back x3 hp) (x3.trans e4) h4)
      | cond lo ro y n =>
        unfold PrAt at hp
        obtain ⟨t, b, b', ⟨dx, h1⟩, h2, h3, h3'⟩ := hp
        unfold AlP at al
        obtain ⟨hl, hr', aly, aln⟩ := al
        have eD : (Pr.cond lo ro y n).depth = 1 + max y.depth n.depth := by rw [Pr.depth]
        have eS : (Pr.cond lo ro y n).size = 1 + (y.size + n.size) := by rw [Pr.size]
        have p1 := Pr.size_pos y
        have p2 := Pr.size_pos n
        have tl := tkP_len y aly
        have tl2 := tkP_len n aln
        refine q_when (b := false) (et_is (et_test (ev_op (ev_fld (ev_var rfl) h1 T.cl T.nK pf_kind) ev_c (rv_eq rfl))) kI_C) (fun hb => nomatch hb) (fun _ H1 e1 => ?_)
        refine q_when (b := false) (et_is (et_test (ev_op (ev_fld (ev_var rfl) (e1 _ _ h1) T.cl T.nK pf_kind) ev_c (rv_eq rfl))) kI_N) (fun hb => nomatch hb) (fun _ H2 e2 => ?_)
        have x2 := e1.trans e2
        refine q_when (b := true) (et_is (et_test (ev_op (ev_fld (ev_var rfl) (x2 _ _ h1) T.cl T.nK pf_kind) ev_c (rv_eq rfl))) kI_I) (fun _ H3 e3 => ?_) (fun hb => nomatch hb)
        have x3 := x2.trans e3
        refine q_unp4 (ev_fld (ev_var rfl) (x3 _ _ h1) T.cl T.nP pf_parts) (x3 _ _ h2) [some (.ref a), none, none, none, some lo.v, some ro.v, some (.ref b), some (.ref b'), none, none] rfl (fun H4 e4 => ?_)
        have x4 := x3.trans e4
        rw [tkP] at q
        refine q_asgL (xs := (["if", opS lo, "=", opS ro, "then"] : List Str).map V.str) (el_lst (ea_cons ev_c (ea_cons (ev_cb (ea_cons (ev_var rfl) ea_nil) (rc_strO hl)) (ea_cons ev_c (ea_cons (ev_cb (ea_cons (ev_var rfl) ea_nil) (rc_strO hr')) (ea_cons ev_c ea_nil))))) (by show 5 ≤ 100000; decide)) (fun l H5 hl5 e5 h5 => ?_)
        have x5 := x4.trans e5
        refine s_retL (el_catS (xs := (["if", opS lo, "=", opS ro, "then"] : List Str) ++ tkP y ++ (["else"] : List Str)) (ys := tkP n) (el_catS (xs := (["if", opS lo, "=", opS ro, "then"] : List Str) ++ tkP y) (ys := (["else"] : List Str))
          (el_is (el_catV (xs := (["if", opS lo, "=", opS ro, "then"] : List Str).map V.str) (ev_var rfl) h5 (el_pt (C := C) (d := d) (ea_cons (ev_var rfl) ea_nil) (h3.ex x5) aly (by omega) (by omega)) (by rw [sizeLine_eq, List.length_map, List.length_map]; show 5 + _ ≤ _; omega)) mapS) (el_lst (ea_cons ev_c ea_nil) (by show 1 ≤ 100000; decide)) ?_)
          (el_pt (C := C) (d := d) (ea_cons (ev_var rfl) ea_nil) (h3'.ex x5) aln (by omega) (by omega)) ?_) (fun p H6 hp e6 h6 => q p H6 (fresh_back x5 hp) (x5.trans e6) h6)
        · rw [List.length_append]
          show 5 + _ + 1 ≤ _
          omega
        · rw [List.length_append, List.length_append]
          show 5 + _ + 1 + _ ≤ _
          omega
      | call n ops =>
        unfold PrAt at hp
        obtain ⟨t, u, ⟨dx, h1⟩, h2, h3⟩ := hp
        unfold AlP at al
        obtain ⟨hn, hol, hoo⟩ := al
        refine q_when (b := false) (et_is (et_test (ev_op (ev_fld (ev_var rfl) h1 T.cl T.nK pf_kind) ev_c (rv_eq rfl))) kL_C) (fun hb => nomatch hb) (fun _ H1 e1 => ?_)
        refine q_when (b := false) (et_is (et_test (ev_op (ev_fld (ev_var rfl) (e1 _ _ h1) T.cl T.nK pf_kind) ev_c (rv_eq rfl))) kL_N) (fun hb => nomatch hb) (fun _ H2 e2 => ?_)
        have x2 := e1.trans e2
        refine q_when (b := false) (et_is (et_test (ev_op (ev_fld (ev_var rfl) (x2 _ _ h1) T.cl T.nK pf_kind) ev_c (rv_eq rfl))) kL_I) (fun hb => nomatch hb) (fun _ H3 e3 => ?_)
        have x3 := x2.trans e3
        refine q_unp2 (ev_fld (ev_var rfl) (x3 _ _ h1) T.cl T.nP pf_parts) (x3 _ _ h2) [some (.ref a), some (.str n), none, none, none, none, none, none, none, some (.ref u)] rfl (fun H4 e4 => ?_)
        have x4 := x3.trans e4
        rw [tkP] at q
        exact s_retL (el_catS (xs := [n]) (ys := tkB (ops.map opS)) (el_lst (ea_cons (ev_var rfl) ea_nil) (by show 1 ≤ 100000; decide)) (el_br (ea_cons (ev_var rfl) ea_nil) (x4 _ _ h3) (by omega) hoo) (by rw [tkB_len, List.length_map]; show 1 + _ ≤ _; omega)) (fun p H5 hp e5 h5 => q p H5 (fresh_back x4 hp) (x4.trans e5) h5)
end
end Fs

set_option Elab.async false
set_option linter.all false
set_option maxRecDepth 100000
set_option maxHeartbeats 8000000
namespace Fs
open PySem L2 Evl FsE FsC FsR FsT FsK
abbrev spS : Str := " "
/-- the written form -/
def txP (p : Pr) : Str := Str.join spS (tkP p)
theorem join2 (s x : Str) : ∀ ys : List Str, ys ≠ [] → Str.join s (x :: ys) = x ++ (s ++ Str.join s ys)
  | [], h => absurd rfl h
  | y :: r, _ => by
    show x ++ s ++ Str.join s (y :: r) = _
    rw [Str.append_assoc]
theorem join_app (s : Str) : ∀ xs ys : List Str, xs ≠ [] → ys ≠ [] → Str.join s (xs ++ ys) = Str.join s xs ++ (s ++ Str.join s ys)
  | [], _, h, _ => absurd rfl h
  | [x], ys, _, h => join2 s x ys h
  | x :: x' :: xs, ys, _, h => by
    have ih := join_app s (x' :: xs) ys (by simp) h
    show Str.join s (x :: (x' :: xs ++ ys)) = _
    rw [join2 s x _ (by simp), ih, join2 s x (x' :: xs) (by simp)]
    simp only [Str.append_assoc]
theorem tkP_ne : ∀ p : Pr, tkP p ≠ []
  | .choice .nil => by rw [tkP]; simp
  | .choice (.cons c s m op ns r os) => by rw [tkP]; simp
  | .new n k r => by rw [tkP]; simp
  | .cond l r y n => by rw [tkP]; simp
  | .call n ops => by rw [tkP]; simp
theorem tx_stop : txP (.choice .nil) = "stop" := by
  unfold txP
  rw [tkP]
  rfl
theorem tx_new {n : Str} {k : Int} {r : Pr} : txP (.new n k r) = ((((("new " : Str) ++ n) ++ (" " : Str)) ++ iS k) ++ (" " : Str)) ++ txP r := by
  unfold txP
  rw [tkP, show (["new", n, iS k] : List Str) ++ tkP r = ("new" : Str) :: n :: iS k :: tkP r from rfl, join2 _ _ _ (by simp), join2 _ _ _ (by simp), join2 _ _ _ (tkP_ne r), show ("new " : Str) = ("new" : Str) ++ spS from by decide +kernel]
  simp only [Str.append_assoc]
theorem tx_cond {l r : Opd} {y n : Pr} : txP (.cond l r y n) = (((((("if " : Str) ++ opS l) ++ (" = " : Str)) ++ opS r) ++ (" then " : Str)) ++ ((txP y ++ (" else " : Str)) ++ txP n)) := by
  unfold txP
  rw [tkP, show (["if", opS l, "=", opS r, "then"] : List Str) ++ tkP y ++ (["else"] : List Str) ++ tkP n = ("if" : Str) :: opS l :: ("=" : Str) :: opS r :: ("then" : Str) :: (tkP y ++ (("else" : Str) :: tkP n)) from by simp, join2 _ _ _ (by simp), join2 _ _ _ (by simp), join2 _ _ _ (by simp), join2 _ _ _ (by simp), join2 _ _ _ (by simp [tkP_ne]),
    join_app _ _ _ (tkP_ne y) (by simp), join2 _ _ _ (tkP_ne n), show ("if " : Str) = ("if" : Str) ++ spS from by decide +kernel, show (" = " : Str) = spS ++ (("=" : Str) ++ spS) from by decide +kernel, show (" then " : Str) = spS ++ (("then" : Str) ++ spS) from by decide +kernel, show (" else " : Str) = spS ++ (("else" : Str) ++ spS) from by decide +kernel]
  simp only [Str.append_assoc]
/-- an offer's tokens ahead of its rest, as the law writes them -/
theorem tkH_eq {c : Str} {s m : Int} {op : Opd} {ns : List Str} : tkH c s m op ns = (([c, iS s, "/", iS m, "put", opS op, "get", "("] : List Str) ++ ns) ++ ([")", "then"] : List Str) := by
  unfold tkH tkB
  simp
def txH (c : Str) (s m : Int) (op : Opd) (ns : List Str) (r : Pr) : Str := (Str.join spS (tkH c s m op ns) ++ (" " : Str)) ++ txP r
def txO : Ofs → List Str
  | .nil => []
  | .cons c s m op ns r os => txH c s m op ns r :: txO os
theorem tkH_ne {c : Str} {s m : Int} {op : Opd} {ns : List Str} : tkH c s m op ns ≠ [] := by
  unfold tkH
  simp
theorem tkO_ne {c : Str} {s m : Int} {op : Opd} {ns : List Str} {r : Pr} : tkO c s m op ns r ≠ [] := by
  unfold tkO
  simp [tkP_ne]
theorem tx_o {c : Str} {s m : Int} {op : Opd} {ns : List Str} {r : Pr} : Str.join spS (tkO c s m op ns r) = txH c s m op ns r := by
  unfold tkO txH
  rw [join_app _ _ _ tkH_ne (tkP_ne r), Str.append_assoc]
  rfl
theorem plus_app (z : Str) : (" + " : Str) ++ z = spS ++ (("+" : Str) ++ (spS ++ z)) := by
  rw [show (" + " : Str) = spS ++ (("+" : Str) ++ spS) from by decide +kernel]
  simp only [Str.append_assoc]
theorem tx_os : ∀ (os : Ofs) (xs : List Str), xs ≠ [] → Str.join spS (xs ++ tkOs os) = Str.join (" + " : Str) (Str.join spS xs :: txO os)
  | .nil, xs, h => by
    rw [tkOs, List.append_nil]
    rfl
  | .cons c s m op ns r os, xs, h => by
    rw [tkOs, show (["+"] : List Str) ++ (tkH c s m op ns ++ tkP r) ++ tkOs os = ("+" : Str) :: (tkO c s m op ns r ++ tkOs os) from rfl, join_app _ _ _ h (by simp), join2 _ _ _ (by simp [tkO_ne]), tx_os os (tkO c s m op ns r) tkO_ne, tx_o]
    show _ = Str.join (" + " : Str) (Str.join spS xs :: (txH c s m op ns r :: txO os))
    rw [join2 (" + " : Str) (Str.join spS xs) (txH c s m op ns r :: txO os) (by simp), plus_app]
theorem tx_choice {os : Ofs} (h : 0 < os.len) : txP (.choice os) = (("[ " : Str) ++ Str.join (" + " : Str) (txO os)) ++ (" ]" : Str) := by
  cases os with
  | nil => exact absurd h (by decide)
  | cons c s m op ns r os =>
    unfold txP
    rw [tkP, show (["["] : List Str) ++ ((tkH c s m op ns ++ tkP r) ++ tkOs os) ++ (["]"] : List Str) = ("[" : Str) :: ((tkO c s m op ns r ++ tkOs os) ++ (["]"] : List Str)) from by simp [tkO], join2 _ _ _ (by simp), join_app _ _ _ (by simp [tkO_ne]) (by simp), tx_os os _ tkO_ne, tx_o,
      show ("[ " : Str) = ("[" : Str) ++ spS from by decide +kernel, show (" ]" : Str) = spS ++ ("]" : Str) from by decide +kernel]
    simp only [Str.append_assoc]
    rfl
/-! lengths -/
theorem join_le (s : Str) : ∀ ts : List Str, (Str.join s ts).length ≤ (ts.map (·.length)).sum + ts.length * s.length
  | [] => Nat.zero_le _
  | [x] => by
    show x.length ≤ (x.length + 0) + 1 * s.length
    omega
  | x :: y :: r => by
    have ih := join_le s (y :: r)
    rw [join2 s x (y :: r) (by simp), Str.length_append, Str.length_append]
    rw [List.map_cons, List.sum_cons, List.length_cons, Nat.add_mul, Nat.one_mul]
    omega
theorem sum_le_mul {n : Nat} : ∀ ts : List Str, (∀ t ∈ ts, t.length ≤ n) → (ts.map (·.length)).sum ≤ n * ts.length
  | [], _ => Nat.zero_le _
  | x :: r, h => by
    have ih := sum_le_mul r (fun t ht => h t (List.mem_cons_of_mem _ ht))
    have hx := h x (List.mem_cons_self ..)
    rw [List.map_cons, List.sum_cons, List.length_cons, Nat.mul_add, Nat.mul_one]
    omega
def ShT (xs : List Str) : Prop := ∀ t ∈ xs, t.length ≤ 31
theorem ShT.app {xs ys : List Str} (h1 : ShT xs) (h2 : ShT ys) : ShT (xs ++ ys) := fun t ht => by
  rcases List.mem_append.mp ht with h | h
  · exact h1 t h
  · exact h2 t h
theorem ShT.nil : ShT [] := fun t ht => by simp at ht
theorem ShT.cons {x : Str} {xs : List Str} (h1 : x.length ≤ 31) (h2 : ShT xs) : ShT (x :: xs) := fun t ht => by
  rcases List.mem_cons.mp ht with h | h
  · rw [h]
    exact h1
  · exact h2 t h
theorem sh_ops {ops : List Opd} (h : ∀ o ∈ ops, OpdOk o) : ShT (ops.map opS) := fun t ht => by
  obtain ⟨o, ho, rfl⟩ := List.mem_map.mp ht
  exact opS_len (h o ho)
theorem sh_lit (z : Str) (h : z.length ≤ 31) : ShT [z] := .cons h .nil
theorem sh_B {xs : List Str} (h : ShT xs) : ShT (tkB xs) := by
  unfold tkB
  exact (ShT.app (ShT.app (sh_lit _ (by decide)) h) (sh_lit _ (by decide)))
theorem sh_H {c : Str} {s m : Int} {op : Opd} {ns : List Str} (h : OfOk c s m op ns) : ShT (tkH c s m op ns) := by
  have h1 := h.ch.len
  have m1 := h.m1
  have m4 := h.m4
  have s0 := h.s0
  have s1 := h.s1
  unfold tkH
  refine ShT.app (ShT.app (ShT.app (.cons (by omega) (.cons (int_len (iOk s0 (by omega))) (.cons (by decide) (.cons (int_len (iOk (by omega) (by omega))) (.cons (by decide) (.cons (opS_len h.op) .nil)))))) (sh_lit _ (by decide))) (sh_B fun y hy => ?_)) (sh_lit _ (by decide))
  have := (h.nz y hy).1
  omega
mutual
theorem sh_P : ∀ p : Pr, AlP p → ShT (tkP p)
  | .choice .nil, _ => by
    rw [tkP]
    exact sh_lit _ (by decide)
  | .choice (.cons c s m op ns r os), h => by
    unfold AlP AlO at h
    obtain ⟨_, h1, h2, h3⟩ := h
    rw [tkP]
    exact ShT.app (ShT.app (sh_lit _ (by decide)) (ShT.app (ShT.app (sh_H h1) (sh_P r h2)) (sh_Os os h3))) (sh_lit _ (by decide))
  | .new n k r, h => by
    unfold AlP at h
    have hn := h.1.len
    rw [tkP]
    exact ShT.app (.cons (by decide) (.cons (by omega) (.cons (int_len (iOk (by have := h.2.1; omega) (by have := h.2.2.1; omega))) .nil))) (sh_P r h.2.2.2)
  | .cond l r y n, h => by
    unfold AlP at h
    rw [tkP]
    exact ShT.app (ShT.app (ShT.app (.cons (by decide) (.cons (opS_len h.1) (.cons (by decide) (.cons (opS_len h.2.1) (.cons (by decide) .nil))))) (sh_P y h.2.2.1)) (sh_lit _ (by decide))) (sh_P n h.2.2.2)
  | .call n ops, h => by
    unfold AlP at h
    have hn := h.1.len
    rw [tkP]
    exact ShT.app (sh_lit _ (by omega)) (sh_B (sh_ops h.2.2))
theorem sh_Os : ∀ os : Ofs, AlO os → ShT (tkOs os)
  | .nil, _ => by
    rw [tkOs]
    exact .nil
  | .cons c s m op ns r os, h => by
    unfold AlO at h
    obtain ⟨h1, h2, h3⟩ := h
    rw [tkOs]
    exact ShT.app (ShT.app (sh_lit _ (by decide)) (ShT.app (sh_H h1) (sh_P r h2))) (sh_Os os h3)
end
theorem join_sh {xs : List Str} (h : ShT xs) : (Str.join spS xs).length ≤ 32 * xs.length := by
  have h1 := join_le spS xs
  have h2 := sum_le_mul xs h
  have h3 : xs.length * spS.length = xs.length := by rw [show spS.length = 1 from by decide, Nat.mul_one]
  omega
theorem tx_len {p : Pr} (h : AlP p) : ((txP p).length : Int) ≤ 960 * p.size := by
  have h1 := tkP_len p h
  have h2 := join_sh (sh_P p h)
  unfold txP
  omega
abbrev rJ (K : PySem.W.Frag) : V → List V → Hp → VK → Prop := fun x xs H Q => ∃ a p, ∃ ys : List Str, x = .str a ∧ xs = [.ref p] ∧ (SqL K H p (ys.map V.str) ∨ SqT K H p (ys.map V.str)) ∧ (ys.map (·.length)).sum + ys.length * a.length ≤ 16777216 ∧ Q (.str (Txt.join a ys)) H
section
variable {σ : L2.St} {H : Hp} {ta tb te : TE} {tas : TA} {K : PySem.W.Frag} {C : Addr} {E : L2.St → XK}
theorem ev_join {a : Str} {ys : List Str} (h1 : Ev ta σ H (.str a)) (h2 : EvL te σ H (ys.map V.str)) (hz : (ys.map (·.length)).sum + ys.length * a.length ≤ 16777216) : Ev (tM1 (rJ K) ta te) σ H (.str (Str.join a ys)) := fun H1 e1 Q q =>
  h1 H1 e1 _ fun H2 e2 => ⟨⟨a, rfl⟩, h2 H2 (e1.trans e2) _ fun p H3 hp e3 h3 => ⟨a, p, ys, rfl, rfl, .inl (sq_of h3), hz, by rw [TL.join_eq]; exact q H3 (e2.trans e3)⟩⟩
end
def spTX (C : Addr) (d : Nat) : Sp := fun vs H Q _ => ∃ (a : Addr) (p : Pr), vs = [.ref a] ∧ PrAt C H a p ∧ AlP p ∧ p.depth ≤ (d : Int) ∧ p.size ≤ 400 ∧ RetV (.str (txP p)) H Q
section
variable {P : Program} {w : World} {K : PySem.W.Frag} {mg : Str → Option Value} {base : Heap} {C CB : Addr}
theorem scTX : FnScope ["process"] ["process"] (defScope (topS 41)) := ⟨rfl, rfl, rfl, by decide +kernel, rfl, by decide +kernel, by decide +kernel⟩
theorem ok_tx {f : Addr} {fd : FuncData} {k d : Nat} (F : Fun K "process_text" "process_text" (topS 41) f fd) (GP : CalX P w K mg base CX0 k "process_tokens" (spPT C d)) : FnOk P w K mg base CX0 (k + 1) f fd ["process"] (spTX C d) := by
  refine F.ok scTX (fun vs H Q E h => ?_) (fun cdv A outer s H vs Q E hr h => ?_)
  · obtain ⟨a, p, rfl, _⟩ := h
    rfl
  · obtain ⟨a, p, rfl, hp, al, hd, hs, q⟩ := h
    refine ⟨_, pss_one (ps_ret (pe_join pe_str (pe_cx (E := fun _ => E0) GP hr (Nat.le_refl _) (by rfl) at0 (pa_cons (pv 0) pa_nil)))), ?_⟩
    have h1 := tkP_len p al
    have h2 := sum_le_mul _ (sh_P p al)
    exact s_ret (ev_join (ys := tkP p) ev_c (el_pt (C := C) (d := d) (ea_cons (ev_var rfl) ea_nil) hp al hd hs) (by
      rw [show (" " : Str).length = 1 from by decide, Nat.mul_one]
      omega)) (fun H1 e1 => q H1 e1)
end
end Fs

set_option Elab.async false
set_option linter.all false
set_option maxRecDepth 100000
set_option maxHeartbeats 8000000
namespace Fs
open PySem L2 Evl FsE FsC FsR FsT FsK
theorem txO_app : ∀ a b : Ofs, txO (a.app b) = txO a ++ txO b
  | .nil, _ => rfl
  | .cons c s m op ns r os, b => by
    show txH c s m op ns r :: txO (os.app b) = txH c s m op ns r :: txO os ++ txO b
    rw [txO_app os b]
    rfl
theorem tkH_sh {c : Str} {s m : Int} {op : Opd} {ns : List Str} (h : OfOk c s m op ns) : (Str.join spS (tkH c s m op ns)).length ≤ 416 := by
  have h1 := join_sh (sh_H h)
  have h2 := ns_len h
  rw [tkH_len] at h1
  omega
theorem txH_len {c : Str} {s m : Int} {op : Opd} {ns : List Str} {r : Pr} (h : OfOk c s m op ns) (al : AlP r) (hs : r.size ≤ 30) : (txH c s m op ns r).length ≤ 30000 := by
  have h1 := tkH_sh h
  have h2 := tx_len al
  unfold txH
  rw [Str.length_append, Str.length_append, show (" " : Str).length = 1 from by decide]
  omega
theorem txO_sh : ∀ os : Ofs, AlO os → os.sum ≤ 30 → ∀ t ∈ txO os, t.length ≤ 30000
  | .nil, _, _, t, ht => by
    unfold txO at ht
    cases ht
  | .cons c s m op ns r os, h, hs, t, ht => by
    unfold AlO at h
    obtain ⟨h1, h2, h3⟩ := h
    have e4 : (Ofs.cons c s m op ns r os).sum = r.size + os.sum := by rw [Ofs.sum]
    have p1 := Pr.size_pos r
    have p2 := Ofs.sum_nn os
    unfold txO at ht
    rcases List.mem_cons.mp ht with e | e
    · rw [e]
      exact txH_len h1 h2 (by omega)
    · exact txO_sh os h3 (by omega) t e
theorem txO_len : ∀ os : Ofs, (txO os).length = os.len
  | .nil => rfl
  | .cons c s m op ns r os => by
    show (txO os).length + 1 = os.len + 1
    rw [txO_len os]
theorem OfsTr.len {H : Hp} : ∀ {os : Ofs} {ps : List V}, OfsTr H ps os → ps.length = os.len
  | .nil, ps, h => by
    unfold OfsTr at h
    subst h
    rfl
  | .cons c s m op ns r os, ps, h => by
    unfold OfsTr at h
    obtain ⟨o, u, b, qs, rfl, _, _, _, h5⟩ := h
    show qs.length + 1 = os.len + 1
    rw [OfsTr.len h5]
theorem kL_L : decide (V.str ("call" : Str) = V.str "call") = true := by decide +kernel
theorem kC_N : decide (V.str ("choice" : Str) = V.str "new") = false := by decide +kernel
theorem kC_I : decide (V.str ("choice" : Str) = V.str "if") = false := by decide +kernel
theorem kC_L : decide (V.str ("choice" : Str) = V.str "call") = false := by decide +kernel
def spLT (d : Nat) : Sp := fun vs H Q _ => ∃ (a : Addr) (p : Pr), vs = [.ref a] ∧ TrAt H a p ∧ AlP p ∧ p.depth ≤ (d : Int) ∧ p.size ≤ 30 ∧ RetV (.str (txP p)) H Q
section
variable {σ : L2.St} {H : Hp} {ta tb te : TE} {tas : TA} {K : PySem.W.Frag} {C : Addr} {E : L2.St → XK}
theorem ev_lt {d : Nat} {a : Addr} {p : Pr} (h : EvA tas σ H [.ref a]) (ht : TrAt H a p) (al : AlP p) (hd : p.depth ≤ (d : Int)) (hs : p.size ≤ 30) : Ev (tCallS (spLT d) E tas) σ H (.str (txP p)) := ev_cx h fun H1 e1 Q q E => ⟨a, p, rfl, ht.ex e1, al, hd, hs, q⟩
theorem ev_joinV {a : Str} {l : Addr} {ys : List Str} (h1 : Ev ta σ H (.str a)) (h2 : Ev te σ H (.ref l)) (hl : H l = some (.lst (ys.map V.str))) (hz : (ys.map (·.length)).sum + ys.length * a.length ≤ 16777216) : Ev (tM1 (rJ K) ta te) σ H (.str (Str.join a ys)) := fun H1 e1 Q q =>
  h1 H1 e1 _ fun H2 e2 => ⟨⟨a, rfl⟩, h2 H2 (e1.trans e2) _ fun H3 e3 => ⟨a, l, ys, rfl, rfl, .inl (sq_of (((e1.trans e2).trans e3) _ _ hl)), hz, by rw [TL.join_eq]; exact q H3 (e2.trans e3)⟩⟩
theorem el_catR {l : Addr} {xs ys : List V} (ha : EvL ta σ H xs) (hb : Ev tb σ H (.ref l)) (hl : H l = some (.lst ys)) (hz : xs.length + ys.length ≤ sizeLine) : EvL (tOp rCat ta tb) σ H (xs ++ ys) := fun H1 e Q q =>
  ha H1 e _ fun p H2 hp e2 h2 => hb H2 (e.trans e2) _ fun H3 e3 => ⟨p, l, xs, ys, rfl, rfl, e3 _ _ h2, e3 _ _ (e2 _ _ (e _ _ hl)), hz, fun r hr => q r _ (fresh_back (e2.trans e3) hr) ((e2.trans e3).trans (Ex.new hr)) upd_same⟩
end
section
variable {P : Program} {w : World} {K : PySem.W.Frag} {mg : Str → Option Value} {base : Heap} {C CB : Addr}
abbrev nsLT : List Str := ["_law_process", "_law_ends", "_law_texts", "_law_channel", "_law_seat", "_law_seats", "_law_operand_here", "_law_names", "_law_rest", "_law_head", "_law_one"]
theorem scLT : FnScope nsLT ["_law_process"] (defScope (topS 60)) := ⟨rfl, rfl, rfl, by decide +kernel, rfl, by decide +kernel, by decide +kernel⟩
theorem ok_lt {f : Addr} {fd : FuncData} (F : Fun K "_law_process_text" "_law_process_text" (topS 60) f fd) (L : LawT K mg) (hstr : mg "str" = none) (hm : mg "_law_process_text" = some (.ref f)) (kp : PySem.W.keepIn K (.ref f) = true) (bd : Binds K fd ["_law_process"] []) : ∀ d : Nat, FnOk P w K mg base CX0 (1 + d) f fd ["_law_process"] (spLT d)
  | 0 => by
    refine F.ok scLT (fun vs H Q E h => ?_) (fun cdv A outer s H vs Q E hr h => ?_)
    · obtain ⟨a, p, rfl, _⟩ := h
      rfl
    · obtain ⟨a, p, rfl, _, _, hd, _⟩ := h
      have := Pr.depth_pos p
      exact absurd hd (by omega)
  | d + 1 => by
    have ih := ok_lt F L hstr hm kp bd d
    have GT : CalX P w K mg base CX0 (1 + d) "_law_process_text" (spLT d) := ⟨f, fd, _, ih, hm, kp, bd⟩
    refine F.ok (k := 1 + d) scLT (fun vs H Q E h => ?_) (fun cdv A outer s H vs Q E hr h => ?_)
    · obtain ⟨a, p, rfl, _⟩ := h
      rfl
    · obtain ⟨a, p, rfl, ht, al, hd, hs, q⟩ := h
      refine ⟨_, pss_cons (ps_if (pt_cmpR op_eq (pe_ix ix_tup (pv 0) pe_int (fun _ _ => rfl)) pe_str (nomark _))
          (pss_one (ps_ret (pe_op op_add_str (pe_op op_add_str (pe_op op_add_str (pe_op op_add_str (pe_op op_add_str pe_str (pe_ix ix_tup (pv 0) pe_int (fun _ _ => rfl))) pe_str) (pe_callTy call_strX (by rfl) hstr (by decide +kernel) (pa_cons (pe_ix ix_tup (pv 0) pe_int (fun _ _ => rfl)) pa_nil))) pe_str) (pe_cx (E := fun _ => E0) GT hr (Nat.le_refl _) (by rfl) at0 (pa_cons (pe_ix ix_tup (pv 0) pe_int (fun _ _ => rfl)) pa_nil))))) pss_nil)
        (pss_cons (ps_if (pt_cmpR op_eq (pe_ix ix_tup (pv 0) pe_int (fun _ _ => rfl)) pe_str (nomark _))
          (pss_cons (ps_set (i := 1) scLT.nd rfl (Or.inl rfl) (pe_op op_add_str (pe_op op_add_str (pe_cx (E := fun _ => E0) GT hr (Nat.le_refl _) (by rfl) at0 (pa_cons (pe_ix ix_tup (pv 0) pe_int (fun _ _ => rfl)) pa_nil)) pe_str) (pe_cx (E := fun _ => E0) GT hr (Nat.le_refl _) (by rfl) at0 (pa_cons (pe_ix ix_tup (pv 0) pe_int (fun _ _ => rfl)) pa_nil))))
          (pss_one (ps_ret (pe_op op_add_str (pe_op op_add_str (pe_op op_add_str (pe_op op_add_str (pe_op op_add_str pe_str (pe_callTy call_strX (by rfl) hstr (by decide +kernel) (pa_cons (pe_ix ix_tup (pv 0) pe_int (fun _ _ => rfl)) pa_nil))) pe_str) (pe_callTy call_strX (by rfl) hstr (by decide +kernel) (pa_cons (pe_ix ix_tup (pv 0) pe_int (fun _ _ => rfl)) pa_nil))) pe_str) (pv 1))))) pss_nil)
        (pss_cons (ps_if (pt_cmpR op_eq (pe_ix ix_tup (pv 0) pe_int (fun _ _ => rfl)) pe_str (nomark _))
          (pss_one (ps_ret (pe_join pe_str (pe_op op_cat (pe_op op_cat (pe_lst (pa_cons (pe_ix ix_tup (pv 0) pe_int (fun _ _ => rfl)) (pa_cons pe_str pa_nil)))
            (pe_lc (own := [("_law_one", 10)]) (g := gName 10) (tt := tYes) (te := tCB rStr (tCons (tVar 10) tNil)) rfl scLT.nd (pi_list (pe_ix ix_tup (pv 0) pe_int (fun _ _ => rfl))) (blkOk_by (own := [("_law_one", 10)]) (N := nsLT) (sc := defScope (topS 60)) (by decide +kernel))
              (fun _ _ _ _ _ => pg_name (i := 10) scLT.nd rfl (Or.inl rfl)) (fun _ _ _ _ _ => pts_nil) (fun _ _ _ _ _ => pe_callTy call_strX (by rfl) hstr (by decide +kernel) (pa_cons (pv 10) pa_nil)))) (pe_lst (pa_cons pe_str pa_nil)))))) pss_nil)
        (pss_cons (ps_if (pt_cmpR op_eq (pe_callB call_len_seq (by rfl) L.len PySem.boot_len (pa_cons (pe_ix ix_tup (pv 0) pe_int (fun _ _ => rfl)) pa_nil)) pe_int (nomark _)) (pss_one (ps_ret pe_str)) pss_nil)
        (pss_cons (ps_set (i := 2) scLT.nd rfl (Or.inl rfl) (pe_lst pa_nil))
        (pss_cons (ps_for PassesOwn.never rfl (pi_list (pe_ix ix_tup (pv 0) pe_int (fun _ _ => rfl))) (pg_tup rfl (pgs_cons (pg_name (i := 3) scLT.nd rfl (.inl rfl)) (pgs_cons (pg_name (i := 4) scLT.nd rfl (.inl rfl)) (pgs_cons (pg_name (i := 5) scLT.nd rfl (.inl rfl)) (pgs_cons (pg_name (i := 6) scLT.nd rfl (.inl rfl)) (pgs_cons (pg_name (i := 7) scLT.nd rfl (.inl rfl)) (pgs_cons (pg_name (i := 8) scLT.nd rfl (.inl rfl)) pgs_nil)))))))
            (pss_cons (ps_set (i := 9) scLT.nd rfl (Or.inl rfl) (pe_op op_cat (pe_op op_cat (pe_lst (pa_cons (pv 3) (pa_cons (pe_callTy call_strX (by rfl) hstr (by decide +kernel) (pa_cons (pv 4) pa_nil)) (pa_cons pe_str (pa_cons (pe_callTy call_strX (by rfl) hstr (by decide +kernel) (pa_cons (pv 5) pa_nil)) (pa_cons pe_str (pa_cons (pe_callTy call_strX (by rfl) hstr (by decide +kernel) (pa_cons (pv 6) pa_nil)) (pa_cons pe_str (pa_cons pe_str pa_nil))))))))) (pv 7)) (pe_lst (pa_cons pe_str (pa_cons pe_str pa_nil)))))
            (pss_one (ps_expr (pe_bm PySem.F.plainAttrs_list PySem.F.slot_list_append PySem.F.type_list_append mt_append (pv 2) (pa_cons (pe_op op_add_str (pe_op op_add_str (pe_join pe_str (pv 9)) pe_str) (pe_cx (E := fun _ => E0) GT hr (Nat.le_refl _) (by rfl) at0 (pa_cons (pv 8) pa_nil))) pa_nil))))))
        (pss_one (ps_ret (pe_op op_add_str (pe_op op_add_str pe_str (pe_join pe_str (pv 2))) pe_str)))))))), ?_⟩
      have ixk : ∀ {xs : List V} {H9 : Hp} {σ9 : L2.St} {i : Int} {v : V}, H9 a = some (.tup xs) → σ9[0]? = some (some (.ref a)) → atI xs i = some v → Ev (tOp (rIxT K) (tVar 0) (tC (.int i))) σ9 H9 v := fun h9 s0 g => ev_op (ev_var s0) ev_c (rv_ixT (st_of h9) g)
      have tl0 := tx_len al
      cases p with
      | new n kk r =>
        unfold TrAt at ht
        obtain ⟨b, h1, h2⟩ := ht
        unfold AlP at al
        obtain ⟨hn, k1, k4, alr⟩ := al
        have eD : (Pr.new n kk r).depth = 1 + r.depth := by rw [Pr.depth]
        have eS : (Pr.new n kk r).size = 1 + r.size := by rw [Pr.size]
        have hnl := hn.len
        have il : (iS kk).length ≤ 31 := int_len (i := kk) (iOk (by omega) (by omega))
        have tl := tx_len alr
        rw [tx_new] at q
        refine q_when (b := true) (et_is (et_test (ev_op (ixk h1 rfl rfl) ev_c (rv_eq rfl))) kN_N) (fun _ H1 e1 => ?_) (fun hb => nomatch hb)
        have g1 := e1 _ _ h1
        refine s_ret (ev_op (x := .str (((("new " : Str) ++ n) ++ (" " : Str)) ++ iS kk ++ (" " : Str))) (y := .str (txP r)) (ev_op (x := .str (((("new " : Str) ++ n) ++ (" " : Str)) ++ iS kk)) (y := .str " ") (ev_op (x := .str ((("new " : Str) ++ n) ++ (" " : Str))) (y := .str (iS kk)) (ev_op (x := .str (("new " : Str) ++ n)) (y := .str " ") (ev_op (x := .str "new ") (y := .str n) ev_c (ixk g1 rfl rfl) (rv_cat ?_)) ev_c (rv_cat ?_)) (ev_cb (ea_cons (ixk g1 rfl rfl) ea_nil) (rc_strI (iOk (by omega) (by omega)))) (rv_cat ?_)) ev_c (rv_cat ?_)) (ev_lt (d := d) (ea_cons (ixk g1 rfl rfl) ea_nil) (h2.ex e1) alr (by omega) (by omega)) (rv_cat ?_)) (fun H2 e2 => q H2 (e1.trans e2))
        all_goals simp only [Str.length_append, show ("new " : Str).length = 4 from by decide, show (" " : Str).length = 1 from by decide]; omega
      | cond lo ro y n =>
        unfold TrAt at ht
        obtain ⟨b, b', h1, h2, h3⟩ := ht
        unfold AlP at al
        obtain ⟨hl, hr', aly, aln⟩ := al
        have eD : (Pr.cond lo ro y n).depth = 1 + max y.depth n.depth := by rw [Pr.depth]
        have eS : (Pr.cond lo ro y n).size = 1 + (y.size + n.size) := by rw [Pr.size]
        have p1 := Pr.size_pos y
        have p2 := Pr.size_pos n
        have tl := tx_len aly
        have tl2 := tx_len aln
        have ol := opS_len hl
        have ol2 := opS_len hr'
        rw [tx_cond] at q
        refine q_when (b := false) (et_is (et_test (ev_op (ixk h1 rfl rfl) ev_c (rv_eq rfl))) kI_N) (fun hb => nomatch hb) (fun _ H1 e1 => ?_)
        refine q_when (b := true) (et_is (et_test (ev_op (ixk (e1 _ _ h1) rfl rfl) ev_c (rv_eq rfl))) kI_I) (fun _ H2 e2 => ?_) (fun hb => nomatch hb)
        have x2 := e1.trans e2
        have g2 := x2 _ _ h1
        refine q_asg (v := .str ((txP y ++ (" else " : Str)) ++ txP n)) (ev_op (x := .str (txP y ++ (" else " : Str))) (y := .str (txP n)) (ev_op (x := .str (txP y)) (y := .str " else ") (ev_lt (d := d) (ea_cons (ixk g2 rfl rfl) ea_nil) (h2.ex x2) aly (by omega) (by omega)) ev_c (rv_cat ?_)) (ev_lt (d := d) (ea_cons (ixk g2 rfl rfl) ea_nil) (h3.ex x2) aln (by omega) (by omega)) (rv_cat ?_)) (fun H3 e3 => ?_)
        · simp only [Str.length_append, show (" else " : Str).length = 6 from by decide]
          omega
        · simp only [Str.length_append, show (" else " : Str).length = 6 from by decide]
          omega
        have x3 := x2.trans e3
        have g3 := x3 _ _ h1
        refine s_ret (ev_op (x := .str ((((("if " : Str) ++ opS lo) ++ (" = " : Str)) ++ opS ro) ++ (" then " : Str))) (y := .str ((txP y ++ (" else " : Str)) ++ txP n)) (ev_op (x := .str (((("if " : Str) ++ opS lo) ++ (" = " : Str)) ++ opS ro)) (y := .str " then ") (ev_op (x := .str ((("if " : Str) ++ opS lo) ++ (" = " : Str))) (y := .str (opS ro)) (ev_op (x := .str (("if " : Str) ++ opS lo)) (y := .str " = ") (ev_op (x := .str "if ") (y := .str (opS lo)) ev_c (ev_cb (ea_cons (ixk g3 rfl rfl) ea_nil) (rc_strO hl)) (rv_cat ?_)) ev_c (rv_cat ?_)) (ev_cb (ea_cons (ixk g3 rfl rfl) ea_nil) (rc_strO hr')) (rv_cat ?_)) ev_c (rv_cat ?_)) (ev_var rfl) (rv_cat ?_)) (fun H4 e4 => q H4 (x3.trans e4))
        all_goals simp only [Str.length_append, show ("if " : Str).length = 3 from by decide, show (" = " : Str).length = 3 from by decide, show (" then " : Str).length = 6 from by decide, show (" else " : Str).length = 6 from by decide]; omega
      | call n ops =>
        unfold TrAt at ht
        obtain ⟨u, h1, h2⟩ := ht
        have shp := sh_P _ al
        have tlp := tkP_len _ al
        unfold AlP at al
        obtain ⟨hn, hol, hoo⟩ := al
        refine q_when (b := false) (et_is (et_test (ev_op (ixk h1 rfl rfl) ev_c (rv_eq rfl))) kL_N) (fun hb => nomatch hb) (fun _ H1 e1 => ?_)
        refine q_when (b := false) (et_is (et_test (ev_op (ixk (e1 _ _ h1) rfl rfl) ev_c (rv_eq rfl))) kL_I) (fun hb => nomatch hb) (fun _ H2 e2 => ?_)
        have x2 := e1.trans e2
        refine q_when (b := true) (et_is (et_test (ev_op (ixk (x2 _ _ h1) rfl rfl) ev_c (rv_eq rfl))) kL_L) (fun _ H3 e3 => ?_) (fun hb => nomatch hb)
        have x3 := x2.trans e3
        have g3 := x3 _ _ h1
        have ek : tkP (.call n ops) = (([n, "("] : List Str) ++ ops.map opS) ++ ([")"] : List Str) := by
          rw [tkP]
          unfold tkB
          simp
        unfold txP at q
        rw [ek] at q shp tlp
        have sm := sum_le_mul _ shp
        refine s_ret (ev_join (ys := (([n, "("] : List Str) ++ ops.map opS) ++ ([")"] : List Str)) ev_c (el_catS (xs := ([n, "("] : List Str) ++ ops.map opS) (ys := ([")"] : List Str)) (el_catS (xs := ([n, "("] : List Str)) (ys := ops.map opS) (el_lst (ea_cons (ixk g3 rfl rfl) (ea_cons ev_c ea_nil)) (by show 2 ≤ 100000; decide)) ?_ ?_) (el_lst (ea_cons ev_c ea_nil) (by show 1 ≤ 100000; decide)) ?_) ?_) (fun H4 e4 => q H4 (x3.trans e4))
        · refine el_lcLy (ixk g3 rfl rfl) (sq_of (x3 _ _ h2)) (by rw [List.length_map]; omega) (fun _ => rfl) (by rw [List.length_map, List.length_map, List.length_map]) (fun i x y H4 e4 hx hy => ?_)
          rw [List.map_map, List.getElem?_map] at hy
          rw [List.getElem?_map] at hx
          cases hoi : ops[i]? with
          | none =>
            rw [hoi] at hx
            cases hx
          | some o =>
            rw [hoi] at hx hy
            cases hx
            cases hy
            exact ev_cb (ea_cons (ev_var rfl) ea_nil) (rc_strO (hoo o (List.mem_of_getElem? hoi)))
        · rw [List.length_map]
          show 2 + _ ≤ _
          omega
        · rw [List.length_append, List.length_map]
          show 2 + _ + 1 ≤ _
          omega
        · rw [show (" " : Str).length = 1 from by decide, Nat.mul_one]
          omega
      | choice os =>
        unfold TrAt at ht
        obtain ⟨l, xs, h1, h2, h3⟩ := ht
        have al0 := al
        unfold AlP at al
        obtain ⟨hlen, hao⟩ := al
        obtain ⟨nd, nz⟩ := ch_num os
        rw [nd] at hd
        rw [nz] at hs tl0
        refine q_when (b := false) (et_is (et_test (ev_op (ixk h1 rfl rfl) ev_c (rv_eq rfl))) kC_N) (fun hb => nomatch hb) (fun _ H1 e1 => ?_)
        refine q_when (b := false) (et_is (et_test (ev_op (ixk (e1 _ _ h1) rfl rfl) ev_c (rv_eq rfl))) kC_I) (fun hb => nomatch hb) (fun _ H2 e2 => ?_)
        have x2 := e1.trans e2
        refine q_when (b := false) (et_is (et_test (ev_op (ixk (x2 _ _ h1) rfl rfl) ev_c (rv_eq rfl))) kC_L) (fun hb => nomatch hb) (fun _ H3 e3 => ?_)
        have x3 := x2.trans e3
        have lenL : RC (fun xs H Q => ∃ p ys, xs = [V.ref p] ∧ (SqL K H p ys ∨ SqT K H p ys) ∧ Q (.int ys.length) H) [.ref l] H3 (.int (xs.length : Int)) := fun H9 e9 Q' q' => ⟨l, xs, rfl, .inl (sq_of ((x3.trans e9) _ _ h2)), q' H9 (Ex.refl H9)⟩
        have hxl : xs.length = os.len := OfsTr.len h3
        cases hos0 : os with
        | nil =>
          rw [hos0] at hxl q
          rw [tx_stop] at q
          refine q_when (b := true) (et_is (et_test (ev_op (ev_cb (ea_cons (ixk (x3 _ _ h1) rfl rfl) ea_nil) lenL) ev_c (rv_eq rfl))) (by rw [hxl]; rfl)) (fun _ H4 e4 => ?_) (fun hb => nomatch hb)
          exact s_ret ev_c (fun H5 e5 => q H5 ((x3.trans e4).trans e5))
        | cons c0 s0 m0 op0 ns0 r0 os0 =>
          have hpos : 0 < os.len := by rw [hos0]; exact Nat.succ_pos _
          clear hos0
          rw [tx_choice hpos] at q tl0
          simp only [Str.length_append] at tl0
          refine q_when (b := false) (et_is (et_test (ev_op (ev_cb (ea_cons (ixk (x3 _ _ h1) rfl rfl) ea_nil) lenL) ev_c (rv_eq rfl))) (decide_eq_false (fun z => by have := V.int.inj z; omega))) (fun hb => nomatch hb) (fun _ H4 e4 => ?_)
          have x4 := x3.trans e4
          refine q_asgL (xs := []) (el_lst ea_nil (by show 0 ≤ 100000; decide)) (fun tt H5 htt e5 h5 => ?_)
          have x5 := x4.trans e5
          have htt0 : H tt = none := fresh_back x4 htt
          refine q_forL (a := l) (xs := xs) (ixk (x5 _ _ h1) rfl rfl) (sq_of (x5 _ _ h2)) (fun i σ' H' => ∃ (pre post : Ofs) (v3 v4 v5 v6 v7 v8 v9 : Option V), σ' = [some (.ref a), none, some (.ref tt), v3, v4, v5, v6, v7, v8, v9, none] ∧ os = pre.app post ∧ OfsTr H (xs.drop i) post ∧ H' tt = some (.lst ((txO pre).map V.str)) ∧ Ex H H')
            (fun H6 e6 => ⟨.nil, os, _, _, _, _, _, _, _, rfl, rfl, h3, e6 _ _ h5, x5.trans e6⟩) (fun i σ' H' _ ⟨_, _, _, _, _, _, _, _, _, _, _, _, _, he⟩ => sq_of (he _ _ h2)) (fun i x σ' H' hx ⟨pre, post, v3, v4, v5, v6, v7, v8, v9, hσ, hos, hof, htx, he⟩ => ?_) (fun σ' H' ⟨pre, post, v3, v4, v5, v6, v7, v8, v9, hσ, hos, hof, htx, he⟩ => ?_)
          · subst hσ
            have hd0 : (xs.drop i)[0]? = some x := by rw [List.getElem?_drop, Nat.add_zero]; exact hx
            cases post with
            | nil =>
              unfold OfsTr at hof
              rw [hof] at hd0
              cases hd0
            | cons ch s m op ns r post =>
              unfold OfsTr at hof
              obtain ⟨o, u, b2, qs, hdr, ho, hu, htr, hof⟩ := hof
              rw [hdr] at hd0
              obtain rfl : x = .ref o := (Option.some.inj hd0).symm
              have hdr1 : xs.drop (i + 1) = qs := by rw [← List.drop_drop, hdr]; rfl
              rw [hos] at hao
              obtain ⟨ap, aq⟩ := AlO.app hao
              unfold AlO at aq
              obtain ⟨ofk, alr, alq⟩ := aq
              have eD : os.depth = max pre.depth (max r.depth post.depth) := by rw [hos, Ofs.app_depth, Ofs.depth]
              have eS : os.sum = pre.sum + (r.size + post.sum) := by rw [hos, Ofs.app_sum, Ofs.sum]
              have eL : os.len = pre.len + (post.len + 1) := by rw [hos, Ofs.app_len]; rfl
              have p1 := Ofs.sum_nn pre
              have p2 := Ofs.sum_nn post
              have p3 := Pr.size_pos r
              have m1 := ofk.m1
              have m4 := ofk.m4
              have s0' := ofk.s0
              have s1' := ofk.s1
              have nl := ns_len ofk
              have tr := tx_len alr
              have th := tkH_sh ofk
              refine ⟨o, _, rfl, st_of (he _ _ ho), rfl, _, _, rfl, _, _, rfl, _, _, rfl, _, _, rfl, _, _, rfl, _, _, rfl, rfl, ?_⟩
              refine q_asgL (σ := [some (.ref a), none, some (.ref tt), some (.str ch), some (.int s), some (.int m), some op.v, some (.ref u), some (.ref b2), v9, none]) (xs := (tkH ch s m op ns).map V.str) (el_is (el_catS (xs := ([ch, iS s, "/", iS m, "put", opS op, "get", "("] : List Str) ++ ns) (ys := ([")", "then"] : List Str))
                (el_is (el_catR (xs := ([ch, iS s, "/", iS m, "put", opS op, "get", "("] : List Str).map V.str) (ys := ns.map V.str) (el_lst (ea_cons (ev_var rfl) (ea_cons (ev_cb (ea_cons (ev_var rfl) ea_nil) (rc_strI (iOk s0' (by omega)))) (ea_cons ev_c (ea_cons (ev_cb (ea_cons (ev_var rfl) ea_nil) (rc_strI (iOk (by omega) (by omega)))) (ea_cons ev_c (ea_cons (ev_cb (ea_cons (ev_var rfl) ea_nil) (rc_strO ofk.op)) (ea_cons ev_c (ea_cons ev_c ea_nil)))))))) (by show 8 ≤ 100000; decide)) (ev_var rfl) (he _ _ hu) (by rw [sizeLine_eq, List.length_map, List.length_map]; show 8 + _ ≤ _; omega)) mapS)
                (el_lst (ea_cons ev_c (ea_cons ev_c ea_nil)) (by show 2 ≤ 100000; decide)) (by rw [List.length_append]; show 8 + _ + 2 ≤ _; omega)) (by rw [tkH_eq])) (fun hh H7 hhh e7 h7 => ?_)
              have y7 := he.trans e7
              have htx7 := e7 _ _ htx
              have hsz : (txO pre).length ≤ 6 := by rw [txO_len]; omega
              have sm := sum_le_mul _ (sh_H ofk)
              have tk := tkH_len (c := ch) (s := s) (m := m) (op := op) (ns := ns)
              refine s_app (v := .str (txH ch s m op ns r)) htx7 (ev_var rfl) (ev_op (x := .str (Str.join spS (tkH ch s m op ns) ++ (" " : Str))) (y := .str (txP r)) (ev_op (x := .str (Str.join spS (tkH ch s m op ns))) (y := .str " ") (ev_joinV (ys := tkH ch s m op ns) ev_c (ev_var rfl) h7 ?_) ev_c (rv_cat ?_)) (ev_lt (d := d) (ea_cons (ev_var rfl) ea_nil) (htr.ex y7) alr (by omega) (by omega)) (rv_cat ?_)) (by rw [List.length_map]; omega) (fun H8 e8 => ?_)
              · rw [show (" " : Str).length = 1 from by decide, Nat.mul_one]
                omega
              · rw [show (" " : Str).length = 1 from by decide]
                omega
              · rw [Str.length_append, show (" " : Str).length = 1 from by decide]
                omega
              · refine ⟨pre.app (.cons ch s m op ns r .nil), post, _, _, _, _, _, _, _, rfl, by rw [Ofs.app_assoc]; exact hos, by rw [hdr1]; exact hof, ?_, Ex.mut (y7.trans e8) htt0⟩
                rw [txO_app, List.map_append]
                exact upd_same
          · subst hσ
            rw [List.drop_length] at hof
            cases post with
            | nil =>
              rw [Ofs.app_nil] at hos
              subst hos
              have s1 := sum_le_mul _ (txO_sh os hao (by omega))
              have s2 := txO_len os
              refine s_ret (ev_op (x := .str (("[ " : Str) ++ Str.join (" + " : Str) (txO os))) (y := .str " ]") (ev_op (x := .str "[ ") (y := .str (Str.join (" + " : Str) (txO os))) ev_c (ev_joinV (ys := txO os) ev_c (ev_var rfl) htx ?_) (rv_cat ?_)) ev_c (rv_cat ?_)) (fun H7 e7 => q H7 (he.trans e7))
              · rw [show (" + " : Str).length = 3 from by decide]
                omega
              · rw [show ("[ " : Str).length = 2 from by decide]
                omega
              · rw [Str.length_append, show ("[ " : Str).length = 2 from by decide, show (" ]" : Str).length = 2 from by decide]
                omega
            | cons ch s m op ns r post =>
              unfold OfsTr at hof
              obtain ⟨o, u, b2, qs, hdr, _⟩ := hof
              cases hdr
end
end Fs

set_option Elab.async false
set_option linter.all false
set_option maxRecDepth 100000
set_option maxHeartbeats 4000000
/-! what instances of some classes and tuples are stays -/
namespace Fs
open PySem L2 Evl FsE FsC FsR
structure ExC (C : Addr) (H H' : Hp) : Prop where
  ins : ∀ a dx fs, H a = some (.ins C dx fs) → H' a = some (.ins C dx fs)
  tup : ∀ a xs, H a = some (.tup xs) → H' a = some (.tup xs)
theorem ExC.of {C : Addr} {H H' : Hp} (e : Ex H H') : ExC C H H' := ⟨fun _ _ _ h => e _ _ h, fun _ _ h => e _ _ h⟩
theorem ExC.trans {C : Addr} {H H1 H2 : Hp} (e : ExC C H H1) (f : ExC C H1 H2) : ExC C H H2 := ⟨fun a dx fs h => f.ins _ _ _ (e.ins _ _ _ h), fun a xs h => f.tup _ _ (e.tup _ _ h)⟩
theorem ExC.updL {C l : Addr} {H : Hp} {xs : List V} {o : HO} (h : H l = some (.lst xs)) : ExC C H (upd H l o) := ⟨fun a dx fs ha => by
    rw [upd_ne (fun z => by rw [z, h] at ha; cases ha)]
    exact ha, fun a ys ha => by
    rw [upd_ne (fun z => by rw [z, h] at ha; cases ha)]
    exact ha⟩
mutual
theorem PrAt.keepC {C : Addr} {H H' : Hp} (e : ExC C H H') : ∀ {p : Pr} {a : Addr}, PrAt C H a p → PrAt C H' a p
  | .choice os, a, h => by
    unfold PrAt at h ⊢
    obtain ⟨t, ps, ⟨dx, h1⟩, h2, h3⟩ := h
    exact ⟨t, ps, ⟨dx, e.ins _ _ _ h1⟩, e.tup _ _ h2, OfsAt.keepC e h3⟩
  | .new n k r, a, h => by
    unfold PrAt at h ⊢
    obtain ⟨t, b, ⟨dx, h1⟩, h2, h3⟩ := h
    exact ⟨t, b, ⟨dx, e.ins _ _ _ h1⟩, e.tup _ _ h2, PrAt.keepC e h3⟩
  | .cond l r y n, a, h => by
    unfold PrAt at h ⊢
    obtain ⟨t, b, c, ⟨dx, h1⟩, h2, h3, h4⟩ := h
    exact ⟨t, b, c, ⟨dx, e.ins _ _ _ h1⟩, e.tup _ _ h2, PrAt.keepC e h3, PrAt.keepC e h4⟩
  | .call n ops, a, h => by
    unfold PrAt at h ⊢
    obtain ⟨t, u, ⟨dx, h1⟩, h2, h3⟩ := h
    exact ⟨t, u, ⟨dx, e.ins _ _ _ h1⟩, e.tup _ _ h2, e.tup _ _ h3⟩
theorem OfsAt.keepC {C : Addr} {H H' : Hp} (e : ExC C H H') : ∀ {os : Ofs} {ps : List V}, OfsAt C H ps os → OfsAt C H' ps os
  | .nil, ps, h => by
    unfold OfsAt at h ⊢
    exact h
  | .cons c s m op ns r os, ps, h => by
    unfold OfsAt at h ⊢
    obtain ⟨o, u, b, qs, h1, h2, h3, h4, h5⟩ := h
    exact ⟨o, u, b, qs, h1, e.tup _ _ h2, e.tup _ _ h3, PrAt.keepC e h4, OfsAt.keepC e h5⟩
end
end Fs

set_option Elab.async false
set_option linter.all false
set_option maxRecDepth 100000
set_option maxHeartbeats 2000000
/-! a written integer read back, pure; a text cut at its blanks -/
namespace FsP
open PySem L2 TL
open Builtin.Str (subAt)
theorem len_l (z : Str) : z.length = z.cps.toList.length := by
  unfold Str.length
  rw [Array.length_toList]
theorem ext_l {x y : Str} (h : x.cps.toList = y.cps.toList) : x = y := Str.ext' (Array.toList_inj.mp h)
def isDig (c : Nat) : Bool := decide (48 ≤ c) && decide (c ≤ 57)
/-- the signs behind a minus -/
def dgL : List Nat → List Nat
  | 45 :: cs => cs
  | cs => cs
theorem subAt_minus (t : Str) : subAt t "-" 0 = true ↔ ∃ cs, t.cps.toList = 45 :: cs := by
  have e : ("-" : Str).cps = #[45] := by decide +kernel
  have hl : ("-" : Str).length = 1 := by decide +kernel
  unfold subAt
  rw [beq_iff_eq, hl, e]
  constructor
  · intro h
    have h2 := congrArg Array.toList h
    rw [Array.toList_extract] at h2
    cases hq : t.cps.toList with
    | nil => rw [hq] at h2; simp at h2
    | cons c cs =>
      rw [hq] at h2
      simp at h2
      exact ⟨cs, by rw [h2]⟩
  · rintro ⟨cs, h⟩
    refine Array.toList_inj.mp ?_
    rw [Array.toList_extract, h]
    simp
theorem rp_list (t : Str) : (Txt.removeprefix t "-").cps.toList = dgL t.cps.toList := by
  have hl : ("-" : Str).length = 1 := by decide +kernel
  rw [StrLaws.removeprefix_eq, hl]
  cases hs : subAt t "-" 0 with
  | true =>
    obtain ⟨cs, hc⟩ := (subAt_minus t).mp hs
    have h1 : 0 + 1 ≤ t.length := by rw [len_l, hc, List.length_cons]; omega
    rw [decide_eq_true h1]
    simp only [Bool.and_self, if_true]
    rw [len_l, hc]
    show List.take (cs.length + 1 - 1) ((45 :: cs).drop 1) = cs
    rw [List.drop_one, List.tail_cons, Nat.add_sub_cancel]
    exact List.take_length
  | false =>
    rw [Bool.and_false, if_neg Bool.false_ne_true]
    cases hq : t.cps.toList with
    | nil => rfl
    | cons c cs =>
      by_cases h45 : c = 45
      · have := (subAt_minus t).mpr ⟨cs, by rw [hq, h45]⟩
        rw [hs] at this
        cases this
      · unfold dgL
        split
        · rename_i cs' he
          injection he with e1 e2
          exact absurd e1 h45
        · rfl
/-- this text is an integer as it is written -/
def irOk (t : Str) : Bool := decide (1 ≤ (dgL t.cps.toList).length) && decide ((dgL t.cps.toList).length ≤ 30) && (dgL t.cps.toList).all isDig && !(decide ((dgL t.cps.toList).headD 0 = 48) && !decide (t = "0"))
theorem all_dig {l : List Nat} (h : l.all isDig = true) : NumText.AllDigits l := fun c hc => by
  have := List.all_eq_true.mp h c hc
  simpa [isDig] using this
theorem ir_some {t : Str} (h : irOk t = true) : ∃ n, PySem.intText? t = some n ∧ t.length ≤ 31 := by
  unfold irOk at h
  simp only [Bool.and_eq_true, decide_eq_true_eq] at h
  obtain ⟨⟨⟨h1, h2⟩, h3⟩, _⟩ := h
  have hd := all_dig h3
  have hl := len_l t
  cases hq : t.cps.toList with
  | nil => rw [hq] at h1; simp [dgL] at h1
  | cons c cs =>
    rw [hq] at h1 h2 hd hl
    rw [List.length_cons] at hl
    by_cases h45 : c = 45
    · subst h45
      have hd' : NumText.AllDigits cs := hd
      have h2' : cs.length ≤ 30 := h2
      have h1' : 1 ≤ cs.length := h1
      refine ⟨_, intText_neg hq hd' (fun z => by rw [z] at h1'; simp at h1') (by omega), by omega⟩
    · have e : dgL (c :: cs) = c :: cs := by
        unfold dgL
        split
        · rename_i cs' he
          injection he with e1 e2
          exact absurd e1 h45
        · rfl
      rw [e] at hd h2
      rw [List.length_cons] at h2
      refine ⟨_, intText_digits (by rw [hq]; exact hd) (by rw [hq]; exact List.cons_ne_nil _ _) (by omega), by omega⟩
/-- what int_read tells -/
def irV (t : Str) : V := if irOk t = true then .int ((PySem.intText? t).getD 0) else .non
theorem irV_yes {t : Str} {n : Int} (h : irOk t = true) (hn : PySem.intText? t = some n) : irV t = .int n := by
  unfold irV
  rw [if_pos h, hn]
  rfl
theorem irV_no {t : Str} (h : irOk t = false) : irV t = .non := by
  unfold irV
  rw [if_neg (by rw [h]; exact Bool.false_ne_true)]
/-- a text that begins otherwise is none -/
theorem ir_word {t : Str} {c : Nat} {cs : List Nat} (h : t.cps.toList = c :: cs) (h1 : c ≠ 45) (h2 : isDig c = false) : irOk t = false := by
  have e : dgL (c :: cs) = c :: cs := by
    unfold dgL
    split
    · rename_i cs' he
      injection he with e1 e2
      exact absurd e1 h1
    · rfl
  unfold irOk
  rw [h, e, List.all_cons, h2]
  simp
theorem numL_head : ∀ n : Nat, n ≠ 0 → (numL n).headD 0 ≠ 48
  | n, h => by
    by_cases h10 : n < 10
    · rw [numL_lt h10]
      show 48 + n ≠ 48
      omega
    · rw [numL_step (by omega)]
      have ih := numL_head (n / 10) (by omega)
      have ne := numL_ne (n / 10)
      cases hq : numL (n / 10) with
      | nil => exact absurd hq ne
      | cons c cs =>
        rw [hq] at ih
        exact ih
  termination_by n => n
  decreasing_by omega
theorem numL_all (n : Nat) : (numL n).all isDig = true := by
  refine List.all_eq_true.mpr fun c hc => ?_
  have := numL_digits n c hc
  simpa [isDig] using this
theorem dgL_num (n : Nat) : dgL (numL n) = numL n := by
  cases hq : numL n with
  | nil => rfl
  | cons c cs =>
    have := numL_digits n c (by rw [hq]; exact List.mem_cons_self ..)
    unfold dgL
    split
    · rename_i cs' he
      injection he with e1 e2
      omega
    · rfl
theorem neg_text (n : Nat) : (Str.ofString (toString (Int.negSucc n))).cps.toList = 45 :: numL (n + 1) := by
  have e : toString (Int.negSucc n) = "-" ++ toString (((n + 1 : Nat) : Int)) := by
    show Int.repr (Int.negSucc n) = "-" ++ Int.repr ((n + 1 : Nat) : Int)
    rfl
  rw [PyProof.Rows.signs_ofString, e, String.toList_append, List.map_append]
  have h := tl_num (n + 1)
  have h2 := PyProof.Rows.signs_ofString (toString ((n + 1 : Nat) : Int))
  rw [show (Str.ofString (toString ((n + 1 : Nat) : Int))).cps.toList = numL (n + 1) from h] at h2
  rw [← h2]
  rfl
theorem ir_iS {i : Int} (h : -(10 ^ 30) < i ∧ i < 10 ^ 30) : irV (Str.ofString (toString i)) = .int i := by
  have e30 : ((10 : Int) ^ 30) = ((10 ^ 30 : Nat) : Int) := by norm_cast
  cases i with
  | ofNat n =>
    have hn : n < 10 ^ 30 := by
      have := h.2
      rw [e30] at this
      exact Int.ofNat_lt.mp this
    have ht : (Str.ofString (toString (Int.ofNat n))).cps.toList = numL n := tl_num n
    have hl := numL_len (n := n) (k := 30) (by decide) hn
    have h1 : 1 ≤ (numL n).length := List.length_pos_iff.mpr (numL_ne n)
    refine irV_yes ?_ (int_num (by omega))
    unfold irOk
    rw [ht, dgL_num, decide_eq_true h1, decide_eq_true hl, numL_all]
    by_cases h0 : n = 0
    · subst h0
      have : (Str.ofString (toString (Int.ofNat 0))) = ("0" : Str) := by decide +kernel
      rw [this]
      decide +kernel
    · rw [decide_eq_false (numL_head n h0)]
      rfl
  | negSucc n =>
    have hn : n + 1 < 10 ^ 30 := by
      have := h.1
      rw [e30] at this
      omega
    have ht := neg_text n
    have hl := numL_len (n := n + 1) (k := 30) (by decide) hn
    have h1 : 1 ≤ (numL (n + 1)).length := List.length_pos_iff.mpr (numL_ne (n + 1))
    have hlen : (Str.ofString (toString (Int.negSucc n))).length ≤ 4300 := by
      rw [len_l, ht, List.length_cons]
      omega
    have hv := intText_neg ht (numL_digits (n + 1)) (numL_ne (n + 1)) hlen
    rw [numL_val] at hv
    refine irV_yes ?_ (hv.trans (congrArg some (by omega)))
    unfold irOk
    rw [ht]
    show (decide (1 ≤ (numL (n + 1)).length) && decide ((numL (n + 1)).length ≤ 30) && (numL (n + 1)).all isDig && !(decide ((numL (n + 1)).headD 0 = 48) && _)) = true
    rw [decide_eq_true h1, decide_eq_true hl, numL_all, decide_eq_false (numL_head (n + 1) (by omega))]
    rfl
theorem num_free {i : Int} : (32 : Nat) ∉ (Str.ofString (toString i)).cps.toList := by
  cases i with
  | ofNat n =>
    rw [show (Str.ofString (toString (Int.ofNat n))).cps.toList = numL n from tl_num n]
    exact numL_free (.inl (by decide))
  | negSucc n =>
    rw [neg_text]
    intro hm
    rcases List.mem_cons.mp hm with z | z
    · cases z
    · exact numL_free (.inl (by decide)) z
end FsP

set_option Elab.async false
set_option linter.all false
set_option maxRecDepth 100000
set_option maxHeartbeats 2000000
/-! A def of a class called off the class itself: C.m(o, ..); a statement that is never reached. -/
namespace FsR
open PySem PySem.Spec PyProof.Rows L2 ClX
structure FMet (K : PySem.W.Frag) (C : Addr) (mc : Value) (m : Str) (g : Addr) : Prop where
  at_ : PySem.W.findCls K (.ref C) mc m = some (.val (.ref g))
  kp : PySem.W.keepIn K (.ref g) = true
section
variable {X : Cx} {pins : List (Addr × Obj)} {σ : L2.St} {H : Hp} {s : Shared} {C g : Addr} {mc : Value} {m : Str} {A : Around} {E : Value → Shared → Prop}
theorem getmethcf_ok {pl : Sem Bool} {Q : Value × List Value → Shared → Prop} (I : Inv X pins σ H s) (r : CRead X.K C mc) (k : FMet X.K C mc m g)
    (h : ∀ s', Inv X pins σ H s' → Q (.ref g, []) s') : wpAny (model X.prog X.w) A (getMethod (.ref C) m pl) Q E s :=
  PySem.W.method_cls I.kIn r.ga (PySem.W.cls_value I.kIn r.rd k.at_ rfl (h _ (I.tok _)))
end
section
variable {X : Cx} {CX : CXT} {k : Nat} {C g : Addr} {mc : Value} {fd : FuncData} {ps : List Str} {sp : Sp} {E : L2.St → XK} {o e : Expr} {es : List Expr} {m : Str} {pos apos : Pos} {ta : TE} {t : TA} {pl : Sem Bool}
theorem pe_clsf (he : PE X o ta) (r : CRead X.K C mc) (c : FMet X.K C mc m g) (F : FnOk X.prog X.w X.K X.mg X.base CX k g fd ps sp) (hr : Room k X.A) (hb : Binds X.K fd ps []) (hx : ∀ σ, PassesAt CX X σ (E σ)) (ha : PA X (e :: es) t)
    (hst : starEach (e :: es) X.env = (false, eval e X.env) :: starEach es X.env := by rfl) (hpl : (backTo pos (starEach es X.env)).any (·.1) = false := by rfl)
    (ht : eval (.Call (.Attribute o m apos) (e :: es) [] pos) X.env = (do
      let ov ← eval o X.env
      standAt apos.atName
      let (f, first) ← holding [ov] (getMethod ov m pl)
      callWith pos f first (backTo pos (starEach (e :: es) X.env)) (backToKw pos (keywordEach [] X.env))) := by rfl) :
    PE X (.Call (.Attribute o m apos) (e :: es) [] pos) (tStat C sp E ta t) := by
  refine ⟨fun pins s σ H Q I h => ?_⟩
  refine PySem.W.methodCall_KW (pl := pl) (thn (he.run pins s σ H _ I h) fun u s1 ⟨x, H1, I1, rx, ex, q⟩ => ?_) ht
  subst ex
  obtain rfl : u = Value.ref C := rx
  refine getmethcf_ok I1 r c fun s2 I2 => ?_
  refine PySem.W.callWith_K (first := []) (h₀ := X.base) I.ok.mod.kin c.kp (thn (ha.run pos pins s2 σ H1 _ I2 q) fun us s3 ⟨vs, H2, I3, rv, q2⟩ => ⟨I3.kIn, ?_⟩) hst hpl
  exact run_fnS F hr hb (hx σ) I3 rv q2
end
def tNever : TS := fun _ _ _ => False
theorem pss_never {X : Cx} {st : List Stmt} : PSs X st tNever := ⟨fun _ _ _ _ _ _ h => h.elim⟩
theorem ps_never {X : Cx} {st : Stmt} : PS X st tNever := ⟨fun _ _ _ _ _ _ h => h.elim⟩
end FsR

set_option Elab.async false
set_option linter.all false
set_option maxRecDepth 100000
set_option maxHeartbeats 4000000
/-! an integer read, an operand read -/
namespace Fs
open PySem L2 Evl FsE FsC FsR FsT FsK FsP
theorem dig_in (c : Nat) : decide (c ∈ digitsS.cps.toList) = isDig c := by
  have e : digitsS.cps.toList = [48, 49, 50, 51, 52, 53, 54, 55, 56, 57] := by decide +kernel
  rw [e]
  unfold isDig
  rw [Bool.eq_iff_iff]
  simp only [decide_eq_true_eq, Bool.and_eq_true, List.mem_cons, List.not_mem_nil, or_false]
  omega
theorem one_zero (c : Nat) : decide (V.str ⟨#[c]⟩ = V.str "0") = decide (c = 48) := by
  have e : ("0" : Str) = ⟨#[48]⟩ := by decide +kernel
  rw [e, Bool.eq_iff_iff]
  simp
/-- what operand_read tells -/
def orV (t : Str) : V := match irV t with
  | .int i => .int i
  | _ => .str t
def spIr : Sp := fun vs H Q _ => ∃ t : Str, vs = [.str t] ∧ t.length ≤ 40000 ∧ RetV (irV t) H Q
def spOr : Sp := fun vs H Q _ => ∃ t : Str, vs = [.str t] ∧ t.length ≤ 40000 ∧ RetV (orV t) H Q
theorem irV_cases (t : Str) : (∃ i, irV t = .int i) ∨ irV t = .non := by
  unfold irV
  split
  · exact .inl ⟨_, rfl⟩
  · exact .inr rfl
theorem rv_isNon {x : V} {H : Hp} : RV (fun x y H Q => y = .non ∧ Q (.bl (decide (x = .non))) H) x .non H (.bl (decide (x = .non))) := fun H1 e Q q => ⟨rfl, q H1 (Ex.refl H1)⟩
theorem rv_notNon {x : V} {H : Hp} : RV (fun x y H Q => y = .non ∧ Q (.bl (!decide (x = .non))) H) x .non H (.bl (!decide (x = .non))) := fun H1 e Q q => ⟨rfl, q H1 (Ex.refl H1)⟩
section
variable {P : Program} {w : World} {K : PySem.W.Frag} {mg : Str → Option Value} {base : Heap} {C CB : Addr}
theorem scIr : FnScope ["token", "digits", "sign"] ["token"] (defScope (topS 15)) := ⟨rfl, rfl, rfl, by decide +kernel, rfl, by decide +kernel, by decide +kernel⟩
theorem ok_ir {f : Addr} {fd : FuncData} (F : Fun K "int_read" "int_read" (topS 15) f fd) (T : BasT K mg) (gM : GC mg "MOST_DIGITS" (.int 30)) : FnOk P w K mg base CX0 1 f fd ["token"] spIr := by
  refine F.ok scIr (fun vs H Q E h => ?_) (fun cdv A outer s H vs Q E hr h => ?_)
  · obtain ⟨t, rfl, _⟩ := h
    rfl
  · obtain ⟨t, rfl, hz, k⟩ := h
    refine ⟨_, pss_cons (ps_set (i := 1) scIr.nd rfl (Or.inl rfl) (pe_m1 PySem.F.slot_str_removeprefix PySem.F.type_str_removeprefix mt_removeprefix (pv 0) pe_str))
      (pss_cons (ps_if (PW.pt (pw_or (pt_not (pt_chain op_le op_le pe_int (pe_callB call_len_str (by rfl) T.len PySem.boot_len (pa_cons (pv 1) pa_nil)) (C8.pe_gc (by rfl) gM)))
          (pw_or1 (pt_not (pt_val (pe_callB (cr_all rfl) (by rfl) T.all (by decide +kernel) (pa_cons (pe_lc (own := [("sign", 2)]) (g := gName 2) (tt := tYes) rfl scIr.nd (pi_str (pv 1)) (blkOk_by (own := [("sign", 2)]) (N := ["token", "digits", "sign"]) (sc := defScope (topS 15)) (by decide +kernel))
            (fun _ _ _ _ _ => pg_name (i := 2) scIr.nd rfl (Or.inl rfl)) (fun _ _ _ _ _ => pts_nil) (fun _ _ _ _ _ => pe_cmpR op_in_sign (pv 2) (C8.pe_gc (by rfl) T.digits) (by rfl))) pa_nil))))))) (pss_one (ps_ret pe_non)) pss_nil)
      (pss_cons (ps_if (PW.pt (pw_and (pt_cmpR op_eq (pe_ix ix_str (pv 1) pe_int (fun _ _ => rfl)) pe_str (nomark _)) (pw_and1 (pt_cmpR op_ne (pv 0) pe_str (nomark _))))) (pss_one (ps_ret pe_non)) pss_nil)
      (pss_one (ps_ret (pe_callTy call_int_str (by rfl) T.int (by decide +kernel) (pa_cons (pv 0) pa_nil)))))), ?_⟩
    have hd := rp_list t
    refine q_asg (v := .str (Txt.removeprefix t "-")) (fun H1 e1 Q q => ⟨_, rfl, ⟨t, rfl⟩, t, "-", rfl, rfl, sz_of (by omega), q H1 (Ex.refl H1)⟩) (fun H1 e1 => ?_)
    generalize Txt.removeprefix t "-" = d at hd
    have dlen : d.length = (dgL t.cps.toList).length := by rw [len_l, hd]
    have tlen : (dgL t.cps.toList).length ≤ t.length := by
      rw [len_l]
      unfold dgL
      split <;> simp_all
    have hz2 : d.length ≤ sizeLine := sz_of (by omega)
    refine q_when (b := !(decide ((1 : Int) ≤ (d.length : Nat)) && decide (((d.length : Nat) : Int) ≤ 30)) || !((d.cps.toList.map fun c => decide (c ∈ digitsS.cps.toList)).all id)) (et_or (et_not (et_test (ev_chain ev_c (ev_cb (ea_cons (ev_var rfl) ea_nil) (rc_lenS hz2)) rv_I0 (fun _ => ev_c) (fun _ => rv_I0))))
      (fun _ => et_not (et_B (ev_all (bs := d.cps.toList.map fun c => decide (c ∈ digitsS.cps.toList)) (by
        rw [List.map_map]
        exact el_lcSm (V.bl ∘ fun c => decide (c ∈ digitsS.cps.toList)) (ev_var rfl) (by omega) (fun _ => rfl) (fun c H3 _ _ => ev_op (ev_var rfl) ev_c rv_inSign)))))) (fun hb H2 e2 => ?_) (fun hb H2 e2 => ?_)
    · refine s_ret ev_c fun H3 e3 => ?_
      have e : irOk t = false := by
        unfold irOk
        rw [hd, List.all_map] at hb
        have ea : (dgL t.cps.toList).all (id ∘ fun c => decide (c ∈ digitsS.cps.toList)) = (dgL t.cps.toList).all isDig := by
          congr 1
          funext c
          exact dig_in c
        rw [ea, dlen] at hb
        cases h3 : (dgL t.cps.toList).all isDig with
        | false => simp
        | true =>
          rw [h3] at hb
          simp only [Bool.not_true, Bool.or_false, Bool.not_eq_true', Bool.and_eq_false_iff, decide_eq_false_iff_not] at hb
          have : (decide (1 ≤ (dgL t.cps.toList).length) && decide ((dgL t.cps.toList).length ≤ 30)) = false := by
            simp only [Bool.and_eq_false_iff, decide_eq_false_iff_not]
            omega
          rw [this]
          rfl
      have q := k H3 ((e1.trans e2).trans e3)
      rw [irV_no e] at q
      exact q
    · have ea : (dgL t.cps.toList).all (id ∘ fun c => decide (c ∈ digitsS.cps.toList)) = (dgL t.cps.toList).all isDig := by
        congr 1
        funext c
        exact dig_in c
      rw [hd, List.all_map, ea, dlen] at hb
      obtain ⟨hb1, hb2⟩ := Bool.or_eq_false_iff.mp hb
      have h3 : (dgL t.cps.toList).all isDig = true := by simpa using hb2
      have h12 : 1 ≤ (dgL t.cps.toList).length ∧ (dgL t.cps.toList).length ≤ 30 := by
        have : ((1 : Int) ≤ ((dgL t.cps.toList).length : Nat) ∧ (((dgL t.cps.toList).length : Nat) : Int) ≤ 30) := by simpa using hb1
        omega
      obtain ⟨c, cs, hc⟩ : ∃ c cs, dgL t.cps.toList = c :: cs := by
        cases hq : dgL t.cps.toList with
        | nil => rw [hq] at h12; simp at h12
        | cons c cs => exact ⟨c, cs, rfl⟩
      have h0 : atI d.cps.toList 0 = some c := atI_nat (j := 0) (by rw [hd, hc]; rfl)
      have main : irOk t = !(decide (c = 48) && !decide (t = "0")) := by
        unfold irOk
        rw [decide_eq_true h12.1, decide_eq_true h12.2, h3, hc]
        rfl
      have td : (!decide (V.str t = V.str "0")) = !decide (t = "0") := by
        congr 1
        rw [Bool.eq_iff_iff]
        simp
      refine q_when (b := decide (c = 48) && !decide (t = "0")) (et_is (et_and (a := decide (c = 48)) (b := !decide (t = "0")) (et_is (et_test (ev_op (ev_op (ev_var rfl) ev_c (rv_ixS (by omega) h0)) ev_c (rv_eq rfl))) (one_zero c)) (fun _ => et_is (et_test (ev_op (x := .str t) (y := .str "0") (ev_var rfl) ev_c (rv_ne rfl))) td)) rfl) (fun hb4 H3 e3 => ?_) (fun hb4 H3 e3 => ?_)
      · refine s_ret ev_c fun H4 e4 => ?_
        have q := k H4 (((e1.trans e2).trans e3).trans e4)
        rw [irV_no (by rw [main, hb4]; rfl)] at q
        exact q
      · have ok : irOk t = true := by rw [main, hb4]; rfl
        obtain ⟨n, hn, h31⟩ := ir_some ok
        refine s_ret (v := .int n) (ev_cb (ea_cons (ev_var rfl) ea_nil) (fun H5 e5 Q5 q5 => ⟨t, n, rfl, hn, by omega, q5 H5 (Ex.refl H5)⟩)) fun H4 e4 => ?_
        have q := k H4 (((e1.trans e2).trans e3).trans e4)
        rw [irV_yes ok hn] at q
        exact q
theorem scOr : FnScope ["token", "value"] ["token"] (defScope (topS 39)) := ⟨rfl, rfl, rfl, by decide +kernel, rfl, by decide +kernel, by decide +kernel⟩
theorem ok_or {f : Addr} {fd : FuncData} (F : Fun K "operand_read" "operand_read" (topS 39) f fd) (GI : CalX P w K mg base CX0 1 "int_read" spIr) : FnOk P w K mg base CX0 2 f fd ["token"] spOr := by
  refine F.ok (k := 1) scOr (fun vs H Q E h => ?_) (fun cdv A outer s H vs Q E hr h => ?_)
  · obtain ⟨t, rfl, _⟩ := h
    rfl
  · obtain ⟨t, rfl, hz, k⟩ := h
    refine ⟨_, pss_cons (ps_set (i := 1) scOr.nd rfl (Or.inl rfl) (pe_cx (E := fun _ => E0) GI hr (Nat.le_refl _) (by rfl) at0 (pa_cons (pv 0) pa_nil)))
      (pss_one (ps_ret (pe_ifExp (pt_cmpR op_isN (pv 1) pe_non (nomark _)) (pv 0) (pv 1)))), ?_⟩
    refine q_asg (v := irV t) (ev_cx (ea_cons (ev_var rfl) ea_nil) (fun H1 e1 Q q E => ⟨t, rfl, hz, q⟩)) (fun H1 e1 => ?_)
    rcases irV_cases t with ⟨i, hi⟩ | hi
    · refine s_ret (v := .int i) (ev_if (b := false) ?_ (fun z => nomatch z) (fun _ => ?_)) (fun H2 e2 => ?_)
      · rw [hi]
        exact et_is (et_test (ev_op (x := .int i) (y := .non) (ev_var rfl) ev_c rv_isNon)) (decide_eq_false (fun z => by cases z))
      · rw [hi]
        exact ev_var rfl
      · have q := k H2 (e1.trans e2)
        unfold orV at q
        rw [hi] at q
        exact q
    · refine s_ret (v := .str t) (ev_if (b := true) ?_ (fun _ => ev_var rfl) (fun z => nomatch z)) (fun H2 e2 => ?_)
      · rw [hi]
        exact et_is (et_test (ev_op (x := .non) (y := .non) (ev_var rfl) ev_c rv_isNon)) (decide_eq_true rfl)
      · have q := k H2 (e1.trans e2)
        unfold orV at q
        rw [hi] at q
        exact q
end
end Fs

set_option Elab.async false
set_option linter.all false
set_option maxRecDepth 100000
set_option maxHeartbeats 4000000
/-! try: body, several clauses, each with its own name: except x as n: suite. -/
namespace FsT
open PySem PySem.Spec PyProof.Rows L2
abbrev Cls3 := Value × Nat × (Addr → Value → Option Addr → TS)
/-- the ends of a suite whose name goes behind it -/
def offN (i : Nat) (D : Ends) : Ends := { nx := fun τ G => D.nx (τ.set i none) G, rt := D.rt, bk := fun τ G => D.bk (τ.set i none) G, ct := fun τ G => D.ct (τ.set i none) G }
/-- what the clauses wish, in their order -/
def wAll (K : PySem.W.Frag) (W0 : WX) (D : Ends) : List Cls3 → WX
  | [] => W0
  | q :: more => fun cls d τ G => ∃ b, PySem.W.exmOne K cls q.1 = some b ∧ (b = true → ∀ x, G x = none → q.2.2 x cls d (offN q.2.1 D) (τ.set q.2.1 (some (.ref x))) G) ∧ (b = false → wAll K W0 D more cls d τ G)
inductive Clauses (X : Cx) : List ExceptHandler → List Cls3 → Prop
  | none : Clauses X [] []
  | one {y n : Str} {c : Value} {i : Nat} {ts : Addr → Value → Option Addr → TS} {st : Stmt} {sts : List Stmt} {p1 p2 : Pos} {hs : List ExceptHandler} {qs : List Cls3} (at_ : X.N[i]? = some n) (loc : X.env.kindOf n = some .local) (nm : Names X y c)
      (su : ∀ (x : Addr) (o : Obj) (cls : Value) (d : Option Addr) (pn : List (Addr × Obj)), Zc cls d o → (∃ vs, o.data = .fields vs) → PSs (X.suite x ((x, o) :: pn)) (st :: sts) (ts x cls d)) (more : Clauses X hs qs) :
      Clauses X (.ExceptHandler (some (.Name y p1)) (some n) (st :: sts) p2 :: hs) ((c, i, ts) :: qs)
section
variable {X : Cx} {body : List Stmt} {h₀ : ExceptHandler} {hds : List ExceptHandler} {qs : List Cls3} {pos : Pos} {tb : WX → TS} {W0 : WX}
theorem ps_try_all (st : X.stack = X.env :: X.outer) (fr : X.env.frame = some X.env.locals) (nd : X.N.Nodup) (tk : Takes X W0)
    (hb : ∀ (W : WX) (pn : List (Addr × Obj)) (xe : Value → Shared → Prop), Takes (X.tr pn xe) W → PassesOwn (model X.prog X.w) X.A X.env xe → PSs (X.tr pn xe) body (tb W))
    (hh : Clauses X (h₀ :: hds) qs) : PS X (.Try body (h₀ :: hds) [] [] pos) (fun D τ G => tb (wAll X.K W0 D qs) D τ G) := by
  refine ⟨fun pins s τ G D I h => ?_⟩
  have ok := I.ok
  have afr : X.A.frames = some (X.env :: X.outer) := ok.frames.trans (congrArg some st)
  refine wpAny_Try_except (wpAny_mono ((hb (wAll X.K W0 D qs) (X.pn ++ pins) (fun e s₁ => wpAny (model X.prog X.w) X.A (noteFrame e X.env) (fun _ s₂ => wpAny (model X.prog X.w) X.A (setFlight e none) (fun _ s₃ =>
    wpAny (model X.prog X.w) X.A (handleBy e X.env (h₀ :: hds)) (SP X pins D) X.xe s₃) X.xe s₂) X.xe s₁) (fun u s' fly => ?_) PassesOwn.looking).run [] s τ G D (I.toTry _) h) (fun fl s1 z => ?_) (fun _ _ z => z))
  rotate_left
  · cases fl with
    | ret u => exact let ⟨v, τ1, G1, J, r, q⟩ := z; ⟨v, τ1, G1, J.ofTry ok, r, q⟩
    | next => exact let ⟨τ1, G1, J, q⟩ := z; wpAny_execs_nil ⟨τ1, G1, J.ofTry ok, q⟩
    | brk => exact let ⟨τ1, G1, J, q⟩ := z; ⟨τ1, G1, J.ofTry ok, q⟩
    | cont => exact let ⟨τ1, G1, J, q⟩ := z; ⟨τ1, G1, J.ofTry ok, q⟩
  obtain ⟨x, B, sI, pins1, τ1, G1, cls, d, rfl, Jt, nb, up, sky, nx, os, ag, w⟩ := fly
  have J : Inv X pins τ1 G1 sI := Jt.ofTry ok
  show wpAny (model X.prog X.w) X.A (noteFrame (.ref x) X.env) _ _ _
  refine Sky.land Zc.steady afr fr (show Sky B (X.env :: X.outer) x (Zc cls d) X.env.locals s'.heap from st ▸ sky) fun g fg ug => ?_
  obtain ⟨o, vs, ho, hz, hd⟩ := fg.there
  have out : x ∉ frs (X.env :: X.outer) := fun hm => by
    obtain ⟨_, o', eo, bad⟩ := fg.2.2.1.mem hm
    rw [ho] at eo
    cases eo
    exact bad _ hd
  have n1 : x ≠ X.env.locals := fun z => out (List.mem_filterMap.mpr ⟨X.env, List.mem_cons_self, fr.trans (congrArg some z.symm)⟩)
  have n2 : x ∉ X.fs := fun hm => let ⟨e, he, q⟩ := List.mem_filterMap.mp hm; out (List.mem_filterMap.mpr ⟨e, List.mem_cons_of_mem _ he, q⟩)
  have Jg : Inv X pins τ1 G1 { s' with heap := g } := J.landed nb fg.1 (up.trans ug) os ag
  have S := Jg.suite ho hd nx n1 n2
  have kin : X.K.In g := Jg.kIn
  have every : ∀ {hs : List ExceptHandler} {l : List Cls3}, Clauses X hs l → wAll X.K W0 D l cls d τ1 G1 → wpAny (model X.prog X.w) X.A (handleBy (.ref x) X.env hs) (SP X pins D) X.xe { s' with heap := g } := by
    intro hs l cl
    induction cl with
    | none =>
      intro w
      obtain ⟨_, _, _, o1, vs1, T, oT, ts1, e1, _, e2, e3, _⟩ := id fg
      have up1 : wpAny (model X.prog X.w) X.A (setFlight (.ref x) X.env.frame) (fun _ s4 => wpAny (model X.prog X.w) X.A (throw (.ref x) : Sem Flow) (SP X pins D) X.xe s4) X.xe { s' with heap := g } := fr ▸ HandSPX.setFlight_upZ fg fun g2 held ug2 => wpAny_throw (tk _ _
        ⟨x, B, sI, pins, τ1, G1, cls, d, rfl, J, nb, (up.trans ug).trans ug2, .inr (.inr (by rw [st]; exact held)), nx, os, ag, w⟩)
      refine wpAny_handleBy_nil ?_
      unfold PySem.passOn
      refine wpAny_bind (wpAny_field e1 e2 e3 ?_)
      rw [if_neg (by simp : ¬ ((Value.ref T == Value.none) = true))]
      first
        | exact wpAny_bind (wpAny_pure (wpAny_bind up1))
        | exact wpAny_bind up1
    | @one y n c i ts st1 sts1 p1 p2 hs1 qs1 at_ loc nm su more ih =>
      rintro ⟨b, eb, yes, no⟩
      have tyx : PySem.W.Looks (model X.prog X.w) g (typeOf (.ref x)) cls := fun A Q E s k q => wpAny_typeOf_ref (k _ _ ho) (hz.1 ▸ q)
      refine wpAny_handleBy_cons (codeAny_handlers_test ?_) (by intro q; cases q)
      have named : ∀ {Q : Value → Shared → Prop} {E : Value → Shared → Prop}, Q c { s' with heap := g } → wpAny (model X.prog X.w) (X.A.mark (some (.ref x))) (eval (.Name y p1) X.env) Q E { s' with heap := g } := fun {Q E} q => by
        rcases nm with ⟨gl, db, hm | ⟨hm, hv, hnn⟩⟩
        · exact ld_glob (X := X.suite x ((x, o) :: (X.pn ++ pins))) S gl hm q db
        · exact ld_blt (X := X.suite x ((x, o) :: (X.pn ++ pins))) S gl hm hv q hnn db
      refine named ((PySem.W.exm_one (M := model X.prog X.w) kin tyx eb).here ?_)
      cases b with
      | false => exact ih (no rfl)
      | true =>
        refine codeAny_handlers_suite_as (HandSPX.lands_againZ fg fun g2 fg2 ug2 => ?_)
        obtain ⟨o2, vs2, ho2, hz2, hd2⟩ := fg2.there
        have Jg2 : Inv X pins τ1 G1 { s' with heap := g2 } := J.landed nb fg2.1 ((up.trans ug).trans ug2) os ag
        have S2 := Jg2.suite ho2 hd2 nx n1 n2
        refine store_ok (X := X.suite x ((x, o2) :: (X.pn ++ pins))) (v := .ref x) S2 nd at_ (.inl loc) rfl (fun s5 S5 => ?_) (.inr loc)
        refine wpAny_mono ((su x o2 cls d (X.pn ++ pins) hz2 ⟨_, hd2⟩).run [] s5 _ G1 _ S5 (yes rfl x nx)) (fun fl s6 z => ?_) (fun _ _ z => False.elim z)
        have goes : ∀ {τ6 : L2.St} {G6 : Hp} {Q : Shared → Prop}, Inv (X.suite x ((x, o2) :: (X.pn ++ pins))) [] τ6 G6 s6 → (∀ s7, Inv X pins (τ6.set i none) G6 s7 → Q s7) →
            wpAny (model X.prog X.w) X.A (do bindName X.env n .none; unbindBehindTheSuite X.env n p2) (fun _ s7 => Q s7) X.xe s6 := fun {τ6 G6 Q} S6 hq => gone_ok (S6.unsuite ok) nd at_ loc hq
        cases fl with
        | ret u => exact let ⟨v6, τ6, G6, S6, r6, q6⟩ := z; goes S6 fun s7 J7 => ⟨_, _, _, J7, r6, q6⟩
        | next => exact let ⟨τ6, G6, S6, q6⟩ := z; goes S6 fun s7 J7 => ⟨_, _, J7, q6⟩
        | brk => exact let ⟨τ6, G6, S6, q6⟩ := z; goes S6 fun s7 J7 => ⟨_, _, J7, q6⟩
        | cont => exact let ⟨τ6, G6, S6, q6⟩ := z; goes S6 fun s7 J7 => ⟨_, _, J7, q6⟩
  exact every hh w
end
/-- o.m(..), what the method raises told by the slots -/
def tMethS (C : Addr) (m : Str) (sp : Sp) (E : L2.St → XK) (ta : TE) (t : TA) : TE := fun τ G Q => ta τ G fun x G1 => ∃ a dx fs, x = .ref a ∧ G1 a = some (.ins C dx fs) ∧ fs.lookup m = none ∧ t τ G1 fun vs G2 => sp (x :: vs) G2 Q (E τ)
section
variable {X : Cx} {CX : CXT} {k : Nat} {f C : Addr} {fd : FuncData} {ps : List Str} {sp : Sp} {E : L2.St → XK} {m : Str} {pos apos : Pos} {e o : Expr} {es : List Expr} {ta : TE} {t : TA}
theorem pe_methS {pl : Sem Bool} (he : PE X o ta) (c : Cls X.K C) (hm : Meth X.K C m f) (F : FnOk X.prog X.w X.K X.mg X.base CX k f fd ps sp) (hr : Room k X.A) (hb : Binds X.K fd ps []) (hx : ∀ τ, PassesAt CX X τ (E τ)) (ha : PA X (e :: es) t)
    (hst : starEach (e :: es) X.env = (false, eval e X.env) :: starEach es X.env := by rfl) (hpl : (backTo pos (starEach es X.env)).any (·.1) = false := by rfl)
    (ht : eval (.Call (.Attribute o m apos) (e :: es) [] pos) X.env = (do
      let ov ← eval o X.env
      standAt apos.atName
      let (f, first) ← holding [ov] (getMethod ov m pl)
      callWith pos f first (backTo pos (starEach (e :: es) X.env)) (backToKw pos (keywordEach [] X.env))) := by rfl) :
    PE X (.Call (.Attribute o m apos) (e :: es) [] pos) (tMethS C m sp E ta t) := by
  refine ⟨fun pins s τ G Q I h => PySem.W.methodCall_KW (pl := pl) (thn (he.run pins s τ G _ I h) fun u s1 ⟨x, G1, I1, rx, a, dx, fs, ex, ea, l, q⟩ => ?_) ht⟩
  subst ex
  obtain rfl : u = Value.ref a := rx
  exact getmeth_ok I1 ea c hm l (PySem.W.callWith_K (first := [.ref a]) (h₀ := X.base) I.ok.mod.kin hm.kp (thn (ha.run pos pins s1 τ G1 _ I1 q) fun us s2 ⟨vs, G2, I2, r, q2⟩ => ⟨I2.kIn, run_fnS (us := .ref a :: us) (vs := .ref a :: vs) F hr hb (hx τ) I2 (.cons rfl r) q2⟩) hst hpl)
end
end FsT

set_option Elab.async false
set_option linter.all false
set_option maxRecDepth 100000
set_option maxHeartbeats 8000000
/-! what laws share: rows, data told by their items, lists of texts -/
namespace Fs
open PySem L2 Evl FsE FsC FsR FsK FsT
theorem takesF0 {X : Cx} : Takes X (fun _ _ _ _ => False) := fun _ _ x => by
  obtain ⟨_, _, _, _, _, _, _, _, _, _, _, _, _, _, _, _, z⟩ := x
  exact z.elim
theorem row_getB {row : List Int} {i : Nat} (hrow : RowOk row) (h : i < row.length) : ∃ v, row[i]? = some v ∧ 0 ≤ v ∧ v < 1000 :=
  ⟨row[i], List.getElem?_eq_getElem h, hrow _ (List.getElem_mem h)⟩
theorem str_at {ns : List Str} {i : Int} (h0 : 0 ≤ i) (h1 : i < (ns.length : Int)) : ∃ z, z ∈ ns ∧ atI (ns.map V.str) i = some (.str z) := by
  obtain ⟨j, rfl⟩ : ∃ j : Nat, i = (j : Int) := ⟨i.toNat, by omega⟩
  have hj : j < ns.length := by omega
  exact ⟨ns[j], List.getElem_mem hj, atI_nat (by rw [List.getElem?_map, List.getElem?_eq_getElem hj]; rfl)⟩
section
variable {σ : L2.St} {H : Hp} {te ta tb tc : TE} {tz : TS} {D : Ends} {K : PySem.W.Frag}
theorem ev_ixI {l : Addr} {xs : List Int} {j : Nat} {v : Int} (ha : Ev ta σ H (.ref l)) (hb : Ev tb σ H (.int (j : Int))) (hl : H l = some (.lst (xs.map V.int))) (hj : xs[j]? = some v) : Ev (tOp (rIxL K) ta tb) σ H (.int v) :=
  ev_op ha hb (rv_ixL (sq_of hl) (atI_nat (by rw [List.getElem?_map, hj]; rfl)))
theorem ev_ixZ {l : Addr} {xs : List Str} {j : Nat} {v : Str} (ha : Ev ta σ H (.ref l)) (hb : Ev tb σ H (.int (j : Int))) (hl : H l = some (.lst (xs.map V.str))) (hj : xs[j]? = some v) : Ev (tOp (rIxL K) ta tb) σ H (.str v) :=
  ev_op ha hb (rv_ixL (sq_of hl) (atI_nat (by rw [List.getElem?_map, hj]; rfl)))
theorem ev_int1 {K : PySem.W.Frag} {i : Int} (h : Ev ta σ H (.int i)) : Ev (tCB (fun xs H Q => (∃ i, xs = [V.int i] ∧ Q (.int i) H) ∨ ∃ k, xs = [V.bl k] ∧ Q (.int (if k then 1 else 0)) H) (tCons ta tNil)) σ H (.int i) := ev_cb (ea_cons h ea_nil) (rc_int (K := K))
/-- data that are told by their items, whatever follows -/
def EvDt (K : PySem.W.Frag) (te : TE) (σ : L2.St) (H : Hp) (d : PyData) : Prop := EvS te σ H fun v H' => ∀ H2, Ex H' H2 → Dp K H2 v d
theorem ev_neDt {d : PyData} (ha : EvDt K ta σ H d) (hb : EvDt K tb σ H d) (hs : SeqAt.shaped d = true) : Ev (tOp (rNeD K) ta tb) σ H (.bl false) := fun H1 e Q q =>
  ha H1 e _ fun x H2 e2 hx => hb H2 (e.trans e2) _ fun y H3 e3 hy => ⟨d, d, hx H3 e3, hy H3 (Ex.refl H3), hs, hs, by rw [SeqAt.eqv_refl d (SeqAt.canLay_of_shaped hs)]; exact q H3 (e2.trans e3)⟩
theorem ev_eqDt {d : PyData} (ha : EvDt K ta σ H d) (hb : EvDt K tb σ H d) (hs : SeqAt.shaped d = true) : Ev (tOp (rEqD K) ta tb) σ H (.bl true) := fun H1 e Q q =>
  ha H1 e _ fun x H2 e2 hx => hb H2 (e.trans e2) _ fun y H3 e3 hy => ⟨d, d, hx H3 e3, hy H3 (Ex.refl H3), hs, hs, by rw [SeqAt.eqv_refl d (SeqAt.canLay_of_shaped hs)]; exact q H3 (e2.trans e3)⟩
theorem edt_v {v : V} {d : PyData} (h : Ev te σ H v) (hd : ∀ H1, Ex H H1 → Dp K H1 v d) : EvDt K te σ H d := fun H1 e Q q => h H1 e _ fun H2 e2 => q v H2 e2 fun H3 e3 => hd H3 ((e.trans e2).trans e3)
theorem edt_two {x y : V} {d1 d2 : PyData} (hx : Ev ta σ H x) (hy : Ev tb σ H y) (h1 : ∀ H1, Dp K H1 x d1) (h2 : ∀ H1, Dp K H1 y d2) : EvDt K (tTup (tCons ta (tCons tb tNil))) σ H (.tuple [d1, d2]) := fun H1 e Q q =>
  hx H1 e _ fun H2 e2 => hy H2 (e.trans e2) _ fun H3 e3 => ⟨by show 2 ≤ sizeLine; decide, fun t ht => q (.ref t) _ ((e2.trans e3).trans (Ex.new ht)) fun H4 e4 => .tup (st_of (e4 _ _ upd_same)) (.cons (h1 H4) (.cons (h2 H4) .nil))⟩
theorem s_retUB {vs : List V} (h : EvU te σ H vs) (k : ∀ t H', H t = none → Ex H H' → H' t = some (.tup vs) → D.rt (.ref t) H') : tRet te D σ H := h H (Ex.refl H) D.rt k
theorem ev_maxLB {i j : Int} (h : EvL te σ H [.int i, .int j]) : Ev (tCB (rMax K) (tCons te tNil)) σ H (.int (max i j)) := fun H1 e Q q =>
  h H1 e _ fun p H2 _ e2 hp => ⟨p, [i, j], rfl, sq_of hp, by show 0 < 2; decide, fun m hm hall => by
    have em : m = max i j := by
      have h1 := hall i (List.mem_cons_self ..)
      have h3 := hall j (List.mem_cons_of_mem _ (List.mem_cons_self ..))
      rcases List.mem_cons.mp hm with rfl | hm
      · omega
      · rw [List.mem_singleton.mp hm] at h1 ⊢
        omega
    rw [em]
    exact q H2 e2⟩
theorem ev_maxB {i j : Int} (ha : Ev ta σ H (.int i)) (hb : Ev tb σ H (.int j)) : Ev (tCB (rMax K) (tCons (tLst (tCons ta (tCons tb tNil))) tNil)) σ H (.int (max i j)) := ev_maxLB (el_lst (ea_cons ha (ea_cons hb ea_nil)) (by show 2 ≤ 100000; decide))
/-- row[b * k + c] -/
theorem ev_rowk {rl : Addr} {row : List Int} {a b : Int} {i n : Nat} {i0 i4 : Nat} {v : Int} (s0 : σ[i0]? = some (some (.ref rl))) (s4 : σ[i4]? = some (some (.int (i : Int)))) (h : H rl = some (.lst (row.map V.int))) (ha : 0 ≤ a ∧ a ≤ 1000) (hn : a * (i : Int) + b = (n : Int)) (hat : row[n]? = some v) :
    Ev (tOp (rIxL K) (tVar i0) (tOp (rI0 fun i j => .int (i + j)) (tOp (rI CMul fun i j => .int (i * j)) (tC (.int a)) (tVar i4)) (tC (.int b)))) σ H (.int v) :=
  ev_op (y := .int (n : Int)) (ev_var s0) (ev_is (ev_op (x := .int (a * (i : Int))) (ev_op ev_c (ev_var s4) (rv_I (.inl ⟨by omega, by omega⟩))) ev_c rv_I0) (by show V.int (a * (i : Int) + b) = _; rw [hn])) (rv_ixL (sq_of h) (atI_nat (by rw [List.getElem?_map, hat]; rfl)))
end
def spLaw (K : PySem.W.Frag) : Sp := fun vs H Q _ => ∃ (a : Addr) (ns : List Int), vs = [.ref a] ∧ SqL K H a (ns.map V.int) ∧ ∀ H', Q (.bl true) H'
end Fs

set_option Elab.async false
set_option linter.all false
set_option maxRecDepth 100000
set_option maxHeartbeats 4000000
/-! a line's tokens, taken one by one -/
namespace Fs
open PySem L2 Evl FsE FsC FsR FsT FsK FsP
/-- all but what stands at a stays -/
def ExA (a : Addr) (H H' : Hp) : Prop := ∀ c o, c ≠ a → H c = some o → H' c = some o
theorem ExA.of {a : Addr} {H H' : Hp} (e : Ex H H') : ExA a H H' := fun _ _ _ h => e _ _ h
theorem ExA.refl {a : Addr} (H : Hp) : ExA a H H := fun _ _ _ h => h
theorem ExA.trans {a : Addr} {H H1 H2 : Hp} (e : ExA a H H1) (e' : ExA a H1 H2) : ExA a H H2 := fun c o hc h => e' c o hc (e c o hc h)
theorem ExA.upd {a : Addr} {H : Hp} {o : HO} : ExA a H (upd H a o) := fun c o' hc h => by rw [upd_ne hc]; exact h
def rdF (tl : Addr) (i : Nat) (x : V) : List (Str × V) := [("tokens", .ref tl), ("taken", .int (i : Int)), ("number", x)]
def RdAt (CR : Addr) (H : Hp) (r tl : Addr) (toks : List Str) (i : Nat) (x : V) : Prop := ∃ dx, H r = some (.ins CR dx (rdF tl i x)) ∧ H tl = some (.lst (toks.map V.str))
theorem RdAt.ex {CR : Addr} {H H' : Hp} (e : Ex H H') {r tl : Addr} {toks : List Str} {i : Nat} {x : V} (h : RdAt CR H r tl toks i x) : RdAt CR H' r tl toks i x := by
  obtain ⟨dx, h1, h2⟩ := h
  exact ⟨dx, e _ _ h1, e _ _ h2⟩
section
variable {CR C : Addr} {H H' : Hp} {r tl : Addr} {toks : List Str} {i : Nat} {x : V}
theorem RdAt.exC (h : RdAt CR H r tl toks i x) (n : CR ≠ C) (e : ExA r H H') : ExC C H H' := by
  obtain ⟨dx, h1, h2⟩ := h
  exact ⟨fun a dx' fs' ha => e a _ (fun z => by
    rw [z, h1] at ha
    injection ha with ha
    injection ha with ha _ _
    exact n ha) ha, fun a xs ha => e a _ (fun z => by rw [z, h1] at ha; cases ha) ha⟩
theorem RdAt.lst (h : RdAt CR H r tl toks i x) (e : ExA r H H') {l : Addr} {xs : List V} (hl : H l = some (.lst xs)) : H' l = some (.lst xs) := by
  obtain ⟨dx, h1, h2⟩ := h
  exact e l _ (fun z => by rw [z, h1] at hl; cases hl) hl
theorem RdAt.fresh (h : RdAt CR H r tl toks i x) (e : ExA r H H') {l : Addr} (hl : H' l = none) (hr : H' r ≠ none) : H l = none := by
  cases hq : H l with
  | none => rfl
  | some o =>
    by_cases hlr : l = r
    · rw [hlr] at hl
      exact absurd hl hr
    · rw [e l o hlr hq] at hl
      cases hl
theorem RdAt.some (h : RdAt CR H r tl toks i x) : H r ≠ none := by
  obtain ⟨dx, h1, _⟩ := h
  rw [h1]
  exact fun z => by cases z
theorem rd_tokens : List.lookup ("tokens" : Str) (rdF tl i x) = some (.ref tl) := by
  unfold rdF
  rw [List.lookup_cons, show (("tokens" : Str) == "tokens") = true from by decide +kernel]
theorem rd_taken : List.lookup ("taken" : Str) (rdF tl i x) = some (.int (i : Int)) := by
  unfold rdF
  rw [List.lookup_cons, show (("taken" : Str) == "tokens") = false from by decide +kernel, List.lookup_cons, show (("taken" : Str) == "taken") = true from by decide +kernel]
theorem rd_no {m : Str} (h1 : (m == ("tokens" : Str)) = false) (h2 : (m == ("taken" : Str)) = false) (h3 : (m == ("number" : Str)) = false) : List.lookup m (rdF tl i x) = none := by
  unfold rdF
  rw [List.lookup_cons, h1, List.lookup_cons, h2, List.lookup_cons, h3]
  rfl
theorem rd_put : putF ("taken" : Str) (.int ((i : Int) + 1)) (rdF tl i x) = rdF tl (i + 1) x := by
  have h1 : ¬ ("tokens" : Str) = "taken" := by decide +kernel
  unfold rdF
  show (if ("tokens" : Str) = "taken" then _ else (("tokens" : Str), V.ref tl) :: (if ("taken" : Str) = "taken" then (("taken" : Str), V.int ((i : Int) + 1)) :: [(("number" : Str), x)] else _)) = _
  rw [if_neg h1, if_pos rfl]
  rfl
theorem drop_at {α : Type} {xs : List α} {i : Nat} {t : α} {rest : List α} (h : xs.drop i = t :: rest) : xs[i]? = some t ∧ xs.drop (i + 1) = rest := by
  constructor
  · have : (xs.drop i)[0]? = some t := by rw [h]; rfl
    rw [List.getElem?_drop, Nat.add_zero] at this
    exact this
  · rw [← List.drop_drop, h]
    rfl
end
structure RdT (K : PySem.W.Frag) (mg : Str → Option Value) (CR : Addr) : Prop where
  cl : Cls K CR
  nT : NoAttr K CR "tokens"
  nK : NoAttr K CR "taken"
  nN : NoAttr K CR "number"
  len : mg "len" = none
/-- what an expression tells that takes tokens of r -/
def EvM (te : TE) (σ : L2.St) (H : Hp) (r : Addr) (Pv : V → Hp → Prop) : Prop := ∀ Q : VK, (∀ v H', ExA r H H' → Pv v H' → Q v H') → te σ H Q
section
variable {σ : L2.St} {H : Hp} {te t1 : TE} {tz : TS} {D : Ends} {r : Addr} {Pv : V → Hp → Prop}
theorem q_asgM {i : Nat} (h : EvM te σ H r Pv) (k : ∀ v H', ExA r H H' → Pv v H' → tz D (σ.set i (some v)) H') : tSeq (tAsg te (gName i)) tz D σ H := h _ fun v H' e p => k v H' e p
theorem q_dropM (h : EvM te σ H r Pv) (k : ∀ v H', ExA r H H' → Pv v H' → tz D σ H') : tSeq (tDrop te) tz D σ H := h _ fun v H' e p => k v H' e p
theorem s_dropM (h : EvM te σ H r Pv) (k : ∀ v H', ExA r H H' → Pv v H' → D.nx σ H') : tDrop te D σ H := h _ fun v H' e p => k v H' e p
theorem s_retM (h : EvM te σ H r Pv) (k : ∀ v H', ExA r H H' → Pv v H' → D.rt v H') : tRet te D σ H := h _ fun v H' e p => k v H' e p
end
def spReq : Sp := fun vs H Q _ => ∃ r : Addr, vs = [.ref r, .bl true] ∧ RetV .non H Q
def spMore (CR : Addr) : Sp := fun vs H Q _ => ∃ (r tl : Addr) (toks : List Str) (i : Nat) (x : V), vs = [.ref r] ∧ RdAt CR H r tl toks i x ∧ RetV (.bl (decide (i < toks.length))) H Q
def spFin (CR : Addr) : Sp := fun vs H Q _ => ∃ (r tl : Addr) (toks : List Str) (i : Nat) (x : V), vs = [.ref r] ∧ RdAt CR H r tl toks i x ∧ i = toks.length ∧ RetV .non H Q
/-- one token, turned by f -/
def spTk (CR : Addr) (f : Str → V) (ok : Str → Prop) : Sp := fun vs H Q _ => ∃ (r tl : Addr) (toks : List Str) (i : Nat) (x : V) (t : Str), vs = [.ref r] ∧ RdAt CR H r tl toks i x ∧ toks[i]? = some t ∧ ok t ∧ ∀ H', ExA r H H' → RdAt CR H' r tl toks (i + 1) x → Q (f t) H'
def shT (t : Str) : Prop := t.length ≤ 40000
def isI (t : Str) : Prop := shT t ∧ ∃ n, irV t = .int n
def spExp (CR : Addr) : Sp := fun vs H Q _ => ∃ (r tl : Addr) (toks : List Str) (i : Nat) (x : V) (t : Str), vs = [.ref r, .str t] ∧ RdAt CR H r tl toks i x ∧ toks[i]? = some t ∧ ∀ H', ExA r H H' → RdAt CR H' r tl toks (i + 1) x → Q .non H'
def spLst (CR : Addr) : Sp := fun vs H Q _ => ∃ (r tl : Addr) (toks : List Str) (i : Nat) (x : V) (ns post : List Str), vs = [.ref r] ∧ RdAt CR H r tl toks i x ∧ toks.drop i = ("(" : Str) :: (ns ++ (")" : Str) :: post) ∧ (")" : Str) ∉ ns ∧ ns.length ≤ 1000 ∧
  ∀ l H', H l = none → ExA r H H' → H' l = some (.lst (ns.map V.str)) → RdAt CR H' r tl toks (i + ns.length + 2) x → Q (.ref l) H'
section
variable {P : Program} {w : World} {K : PySem.W.Frag} {mg : Str → Option Value} {base : Heap} {CR : Addr}
theorem scReq : FnScope ["self", "allowed"] ["self", "allowed"] (defScope (inClass (topS 36) 2)) := ⟨rfl, rfl, rfl, by decide +kernel, rfl, by decide +kernel, by decide +kernel⟩
theorem ok_req {f : Addr} {fd : FuncData} (F : Fun K "require" "Tokens.require" (inClass (topS 36) 2) f fd) : FnOk P w K mg base CX0 1 f fd ["self", "allowed"] spReq := by
  refine F.ok scReq (fun vs H Q E h => ?_) (fun cdv A outer s H vs Q E hr h => ?_)
  · obtain ⟨r, rfl, _⟩ := h
    rfl
  · obtain ⟨r, rfl, q⟩ := h
    refine ⟨_, pss_one (ps_if (pt_not (pt_val (pv 1))) L2.pss_never pss_nil), ?_⟩
    exact s_when (b := false) (et_is (et_not (et_B (ev_var (v := .bl true) rfl))) rfl) (fun z => nomatch z) (fun _ H1 e1 => q H1 e1)
theorem scMore : FnScope ["self"] ["self"] (defScope (inClass (topS 36) 3)) := ⟨rfl, rfl, rfl, by decide +kernel, rfl, by decide +kernel, by decide +kernel⟩
theorem ok_more {f : Addr} {fd : FuncData} (F : Fun K "has_more" "Tokens.has_more" (inClass (topS 36) 3) f fd) (T : RdT K mg CR) : FnOk P w K mg base CX0 1 f fd ["self"] (spMore CR) := by
  refine F.ok scMore (fun vs H Q E h => ?_) (fun cdv A outer s H vs Q E hr h => ?_)
  · obtain ⟨r, tl, toks, i, x, rfl, _⟩ := h
    rfl
  · obtain ⟨r, tl, toks, i, x, rfl, ⟨dx, h1, h2⟩, q⟩ := h
    refine ⟨_, pss_one (ps_ret (pe_cmpR op_lt (pe_fld (pv 0) rfl) (pe_callB call_len_seq (by rfl) T.len PySem.boot_len (pa_cons (pe_fld (pv 0) rfl) pa_nil)) (nomark _))), ?_⟩
    refine s_ret (ev_is (ev_op (x := .int (i : Int)) (y := .int ((toks.map V.str).length : Int)) (ev_fld (ev_var rfl) h1 T.cl T.nK rd_taken) (ev_cb (ea_cons (ev_fld (ev_var rfl) h1 T.cl T.nT rd_tokens) ea_nil) (fun H5 e5 Q5 q5 => ⟨tl, _, rfl, .inl (sq_of (e5 _ _ h2)), q5 H5 (Ex.refl H5)⟩)) rv_I0) ?_) q
    rw [List.length_map]
    refine congrArg V.bl (Bool.eq_iff_iff.mpr ?_)
    rw [decide_eq_true_eq, decide_eq_true_eq]
    omega
theorem scFin : FnScope ["self"] ["self"] (defScope (inClass (topS 36) 4)) := ⟨rfl, rfl, rfl, by decide +kernel, rfl, by decide +kernel, by decide +kernel⟩
structure TkM (P : Program) (w : World) (K : PySem.W.Frag) (mg : Str → Option Value) (base : Heap) (CR : Addr) : Prop where
  req : ∃ f fd, Meth K CR "require" f ∧ FnOk P w K mg base CX0 1 f fd ["self", "allowed"] spReq ∧ Binds K fd ["self", "allowed"] []
  more : ∃ f fd, Meth K CR "has_more" f ∧ FnOk P w K mg base CX0 1 f fd ["self"] (spMore CR) ∧ Binds K fd ["self"] []
theorem ev_more {σ : L2.St} {H : Hp} {r tl : Addr} {toks : List Str} {i : Nat} {x : V} (s0 : σ[0]? = some (some (.ref r))) (rd : RdAt CR H r tl toks i x) : Ev (tMeth CR "has_more" (spMore CR) [] E0 (tVar 0) tNil) σ H (.bl (decide (i < toks.length))) := fun H1 e1 Q q => by
  obtain ⟨dx, h1, h2⟩ := rd
  exact ⟨_, s0, r, dx, _, rfl, e1 _ _ h1, rd_no (by decide +kernel) (by decide +kernel) (by decide +kernel), r, tl, toks, i, x, rfl, ⟨dx, e1 _ _ h1, e1 _ _ h2⟩, q⟩
theorem ok_fin {f : Addr} {fd : FuncData} (F : Fun K "finish" "Tokens.finish" (inClass (topS 36) 4) f fd) (T : RdT K mg CR) (M : TkM P w K mg base CR) : FnOk P w K mg base CX0 2 f fd ["self"] (spFin CR) := by
  obtain ⟨fr, fdr, mr, okr, br⟩ := M.req
  obtain ⟨fm, fdm, mm, okm, bm⟩ := M.more
  refine F.ok (k := 1) scFin (fun vs H Q E h => ?_) (fun cdv A outer s H vs Q E hr h => ?_)
  · obtain ⟨r, tl, toks, i, x, rfl, _⟩ := h
    rfl
  · obtain ⟨r, tl, toks, i, x, rfl, rd, hi, q⟩ := h
    refine ⟨_, pss_one (ps_expr (pe_meth (E := E0) (pv 0) T.cl mr okr hr br .nil pass0 (pa_cons (pe_not (pe_meth0 (E := E0) (pv 0) T.cl mm okm hr bm .nil pass0)) pa_nil))), ?_⟩
    obtain ⟨dx, h1, h2⟩ := id rd
    refine ⟨_, rfl, r, dx, _, rfl, h1, rd_no (by decide +kernel) (by decide +kernel) (by decide +kernel), ?_⟩
    refine ev_more (σ := [some (.ref r)]) rfl rd H (Ex.refl H) _ (fun H1 e1 => ⟨_, rfl, r, ?_, fun H2 e2 => q H2 (e1.trans e2)⟩)
    rw [decide_eq_false (by omega)]
    rfl
theorem scTk : FnScope ["self"] ["self"] (defScope (inClass (topS 36) 5)) := ⟨rfl, rfl, rfl, by decide +kernel, rfl, by decide +kernel, by decide +kernel⟩
theorem ok_tk {f : Addr} {fd : FuncData} (F : Fun K "take_token" "Tokens.take_token" (inClass (topS 36) 5) f fd) (T : RdT K mg CR) (M : TkM P w K mg base CR) : FnOk P w K mg base CX0 2 f fd ["self"] (spTk CR V.str fun _ => True) := by
  obtain ⟨fr, fdr, mr, okr, br⟩ := M.req
  obtain ⟨fm, fdm, mm, okm, bm⟩ := M.more
  refine F.ok (k := 1) scTk (fun vs H Q E h => ?_) (fun cdv A outer s H vs Q E hr h => ?_)
  · obtain ⟨r, tl, toks, i, x, t, rfl, _⟩ := h
    rfl
  · obtain ⟨r, tl, toks, i, x, t, rfl, rd, ht, _, q⟩ := h
    refine ⟨_, pss_cons (ps_expr (pe_meth (E := E0) (pv 0) T.cl mr okr hr br .nil pass0 (pa_cons (pe_meth0 (E := E0) (pv 0) T.cl mm okm hr bm .nil pass0) pa_nil)))
      (pss_cons (ps_fldaug (pv 0) pe_int in_add) (pss_one (ps_ret (pe_ix ix_list (pe_fld (pv 0) rfl) (pe_op op_sub (pe_fld (pv 0) rfl) pe_int) (fun _ _ => rfl))))), ?_⟩
    obtain ⟨dx, h1, h2⟩ := id rd
    have hlt : i < toks.length := (List.getElem?_eq_some_iff.mp ht).1
    refine ⟨_, rfl, r, dx, _, rfl, h1, rd_no (by decide +kernel) (by decide +kernel) (by decide +kernel), ?_⟩
    refine ev_more (σ := [some (.ref r)]) rfl rd H (Ex.refl H) _ (fun H1 e1 => ⟨r, ?_, fun H2 e2 => ?_⟩)
    · rw [decide_eq_true hlt]
      rfl
    have e12 := e1.trans e2
    refine ⟨_, rfl, r, CR, dx, _, _, rfl, e12 _ _ h1, T.cl, T.nK, rd_taken, _, _, rfl, rfl, _, _, e12 _ _ h1, by show 3 < 1000; decide, ?_⟩
    rw [rd_put]
    have ntl : tl ≠ r := fun z => by rw [z, h1] at h2; cases h2
    have h2' : (upd H2 r (.ins CR dx (rdF tl (i + 1) x))) tl = some (.lst (toks.map V.str)) := by rw [upd_ne ntl]; exact e12 _ _ h2
    refine s_ret (v := .str t) (ev_op (x := .ref tl) (y := .int (i : Int)) (ev_fld (ev_var rfl) upd_same T.cl T.nT rd_tokens) (ev_is (ev_op (x := .int ((i + 1 : Nat) : Int)) (y := .int 1) (ev_fld (ev_var rfl) upd_same T.cl T.nK rd_taken) ev_c rv_I0) (by show V.int (((i + 1 : Nat) : Int) - 1) = _; rw [show ((i + 1 : Nat) : Int) - 1 = (i : Int) by omega])) (rv_ixL (sq_of h2') (atI_nat (by rw [List.getElem?_map, ht]; rfl)))) (fun H3 e3 => ?_)
    exact q H3 (fun c o hc h => e3 _ _ (by rw [upd_ne hc]; exact e12 _ _ h)) ⟨dx, e3 _ _ upd_same, e3 _ _ h2'⟩
end
end Fs

set_option Elab.async false
set_option linter.all false
set_option maxRecDepth 100000
set_option maxHeartbeats 4000000
/-! a line's tokens: integers, words, operands, lists -/
namespace Fs
open PySem L2 Evl FsE FsC FsR FsT FsK FsP
theorem if_T {c : Prop} [Decidable c] {A B : Prop} (h : c) (a : A) : if c then A else B := by rw [if_pos h]; exact a
theorem if_F {c : Prop} [Decidable c] {A B : Prop} (h : ¬ c) (b : B) : if c then A else B := by rw [if_neg h]; exact b
def MthX (P : Program) (w : World) (K : PySem.W.Frag) (mg : Str → Option Value) (base : Heap) (CR : Addr) (k : Nat) (m : Str) (ps : List Str) (sp : Sp) : Prop := ∃ f fd, Meth K CR m f ∧ FnOk P w K mg base CX0 k f fd ps sp ∧ Binds K fd ps []
theorem ExA.mut {a l : Addr} {H H1 : Hp} {o : HO} (e : ExA a H H1) (hl : H l = none) : ExA a H (L2.upd H1 l o) := fun c o' hc h => by
  rw [upd_ne (fun z => by rw [z, hl] at h; cases h)]
  exact e c o' hc h
theorem RdAt.upd {CR : Addr} {H : Hp} {r tl l : Addr} {toks : List Str} {i : Nat} {x : V} {o : HO} (h : RdAt CR H r tl toks i x) (h1 : l ≠ r) (h2 : l ≠ tl) : RdAt CR (L2.upd H l o) r tl toks i x := by
  obtain ⟨dx, g1, g2⟩ := h
  exact ⟨dx, by rw [upd_ne (Ne.symm h1)]; exact g1, by rw [upd_ne (Ne.symm h2)]; exact g2⟩
section
variable {σ : L2.St} {H : Hp} {CR r tl : Addr} {toks : List Str} {i : Nat} {x : V} {t : Str} {f : Str → V} {ok : Str → Prop} {m : Str}
theorem em_tk (s0 : σ[0]? = some (some (.ref r))) (rd : RdAt CR H r tl toks i x) (ht : toks[i]? = some t) (h : ok t) (hm : List.lookup m (rdF tl i x) = none) : EvM (tMeth CR m (spTk CR f ok) [] E0 (tVar 0) tNil) σ H r (fun v H' => v = f t ∧ RdAt CR H' r tl toks (i + 1) x) := fun Q q => by
  obtain ⟨dx, h1, h2⟩ := id rd
  exact ⟨_, s0, r, dx, _, rfl, h1, hm, r, tl, toks, i, x, t, rfl, rd, ht, h, fun H' e rd' => q _ H' e ⟨rfl, rd'⟩⟩
theorem em_exp {te : TE} (s0 : σ[0]? = some (some (.ref r))) (rd : RdAt CR H r tl toks i x) (ht : toks[i]? = some t) (hte : Ev te σ H (.str t)) : EvM (tMeth CR "expect" (spExp CR) [] E0 (tVar 0) (tCons te tNil)) σ H r (fun v H' => v = .non ∧ RdAt CR H' r tl toks (i + 1) x) := fun Q q => by
  obtain ⟨dx, h1, h2⟩ := id rd
  refine ⟨_, s0, r, dx, _, rfl, h1, rd_no (by decide +kernel) (by decide +kernel) (by decide +kernel), hte H (Ex.refl H) _ fun H1 e1 => ⟨r, tl, toks, i, x, t, rfl, rd.ex e1, ht, fun H' e rd' => q _ H' ((ExA.of e1).trans e) ⟨rfl, rd'⟩⟩⟩
theorem em_lst {ns post : List Str} (s0 : σ[0]? = some (some (.ref r))) (rd : RdAt CR H r tl toks i x) (ht : toks.drop i = ("(" : Str) :: (ns ++ (")" : Str) :: post)) (hn : (")" : Str) ∉ ns) (hl : ns.length ≤ 1000) : EvM (tMeth CR "take_list" (spLst CR) [] E0 (tVar 0) tNil) σ H r (fun v H' => ∃ l, v = .ref l ∧ H l = none ∧ H' l = some (.lst (ns.map V.str)) ∧ RdAt CR H' r tl toks (i + ns.length + 2) x) := fun Q q => by
  obtain ⟨dx, h1, h2⟩ := id rd
  exact ⟨_, s0, r, dx, _, rfl, h1, rd_no (by decide +kernel) (by decide +kernel) (by decide +kernel), r, tl, toks, i, x, ns, post, rfl, rd, ht, hn, hl, fun l H' h0 e hl' rd' => q _ H' e ⟨l, rfl, h0, hl', rd'⟩⟩
end
section
variable {P : Program} {w : World} {K : PySem.W.Frag} {mg : Str → Option Value} {base : Heap} {CR : Addr}
theorem scTi : FnScope ["self", "value"] ["self"] (defScope (inClass (topS 36) 6)) := ⟨rfl, rfl, rfl, by decide +kernel, rfl, by decide +kernel, by decide +kernel⟩
theorem ok_ti {f : Addr} {fd : FuncData} (F : Fun K "take_int" "Tokens.take_int" (inClass (topS 36) 6) f fd) (T : RdT K mg CR) (MR : MthX P w K mg base CR 1 "require" ["self", "allowed"] spReq) (MT : MthX P w K mg base CR 2 "take_token" ["self"] (spTk CR V.str fun _ => True)) (GI : CalX P w K mg base CX0 1 "int_read" spIr) : FnOk P w K mg base CX0 3 f fd ["self"] (spTk CR irV isI) := by
  obtain ⟨fr, fdr, mr, okr, br⟩ := MR
  obtain ⟨ft, fdt, mt, okt, bt⟩ := MT
  refine F.ok (k := 2) scTi (fun vs H Q E h => ?_) (fun cdv A outer s H vs Q E hr h => ?_)
  · obtain ⟨r, tl, toks, i, x, t, rfl, _⟩ := h
    rfl
  · obtain ⟨r, tl, toks, i, x, t, rfl, rd, ht, ⟨hsh, n, hn⟩, q⟩ := h
    refine ⟨_, pss_cons (ps_set (i := 1) scTi.nd rfl (Or.inl rfl) (pe_cx (E := fun _ => E0) GI hr (by decide) (by rfl) at0 (pa_cons (pe_meth0 (E := E0) (pv 0) T.cl mt okt hr bt .nil pass0) pa_nil)))
      (pss_cons (ps_expr (pe_meth (E := E0) (pv 0) T.cl mr okr (hr.mono (by decide)) br .nil pass0 (pa_cons (pe_cmpR op_notN (pv 1) pe_non (nomark _)) pa_nil)))
      (pss_one (ps_ret (pv 1)))), ?_⟩
    refine em_tk (σ := [some (.ref r), none]) (f := V.str) (ok := fun _ => True) rfl rd ht trivial (rd_no (by decide +kernel) (by decide +kernel) (by decide +kernel)) _ (fun v H1 e1 ⟨hv, rd1⟩ => ?_)
    subst hv
    refine ⟨t, rfl, hsh, fun H2 e2 => ?_⟩
    obtain ⟨dx, g1, g2⟩ := id (rd1.ex e2)
    rw [hn]
    refine ⟨_, rfl, r, dx, _, rfl, g1, rd_no (by decide +kernel) (by decide +kernel) (by decide +kernel), _, rfl, rfl, r, by rw [decide_eq_false (fun z => by cases z)]; rfl, fun H3 e3 => ?_⟩
    refine ⟨_, rfl, ?_⟩
    have := q H3 (e1.trans (.of (e2.trans e3))) (rd1.ex (e2.trans e3))
    rw [hn] at this
    exact this
theorem scExp : FnScope ["self", "word"] ["self", "word"] (defScope (inClass (topS 38) 2)) := ⟨rfl, rfl, rfl, by decide +kernel, rfl, by decide +kernel, by decide +kernel⟩
theorem ok_exp {f : Addr} {fd : FuncData} (F : Fun K "expect" "Reader.expect" (inClass (topS 38) 2) f fd) (T : RdT K mg CR) (MR : MthX P w K mg base CR 1 "require" ["self", "allowed"] spReq) (MT : MthX P w K mg base CR 2 "take_token" ["self"] (spTk CR V.str fun _ => True)) : FnOk P w K mg base CX0 3 f fd ["self", "word"] (spExp CR) := by
  obtain ⟨fr, fdr, mr, okr, br⟩ := MR
  obtain ⟨ft, fdt, mt, okt, bt⟩ := MT
  refine F.ok (k := 2) scExp (fun vs H Q E h => ?_) (fun cdv A outer s H vs Q E hr h => ?_)
  · obtain ⟨r, tl, toks, i, x, t, rfl, _⟩ := h
    rfl
  · obtain ⟨r, tl, toks, i, x, t, rfl, rd, ht, q⟩ := h
    refine ⟨_, pss_one (ps_expr (pe_meth (E := E0) (pv 0) T.cl mr okr (hr.mono (by decide)) br .nil pass0 (pa_cons (pe_cmpR op_eq (pe_meth0 (E := E0) (pv 0) T.cl mt okt hr bt .nil pass0) (pv 1) (nomark _)) pa_nil))), ?_⟩
    obtain ⟨dx, h1, h2⟩ := id rd
    refine ⟨_, rfl, r, dx, _, rfl, h1, rd_no (by decide +kernel) (by decide +kernel) (by decide +kernel), ?_⟩
    refine em_tk (σ := [some (.ref r), some (.str t)]) (f := V.str) (ok := fun _ => True) rfl rd ht trivial (rd_no (by decide +kernel) (by decide +kernel) (by decide +kernel)) _ (fun v H1 e1 ⟨hv, rd1⟩ => ?_)
    subst hv
    exact ⟨_, rfl, rfl, r, by rw [decide_eq_true rfl]; rfl, fun H2 e2 => q H2 (e1.trans (.of e2)) (rd1.ex e2)⟩
theorem scTo : FnScope ["self"] ["self"] (defScope (inClass (topS 38) 3)) := ⟨rfl, rfl, rfl, by decide +kernel, rfl, by decide +kernel, by decide +kernel⟩
theorem ok_to {f : Addr} {fd : FuncData} (F : Fun K "take_operand" "Reader.take_operand" (inClass (topS 38) 3) f fd) (T : RdT K mg CR) (MT : MthX P w K mg base CR 2 "take_token" ["self"] (spTk CR V.str fun _ => True)) (GO : CalX P w K mg base CX0 2 "operand_read" spOr) : FnOk P w K mg base CX0 3 f fd ["self"] (spTk CR orV shT) := by
  obtain ⟨ft, fdt, mt, okt, bt⟩ := MT
  refine F.ok (k := 2) scTo (fun vs H Q E h => ?_) (fun cdv A outer s H vs Q E hr h => ?_)
  · obtain ⟨r, tl, toks, i, x, t, rfl, _⟩ := h
    rfl
  · obtain ⟨r, tl, toks, i, x, t, rfl, rd, ht, hsh, q⟩ := h
    refine ⟨_, pss_one (ps_ret (pe_cx (E := fun _ => E0) GO hr (by decide) (by rfl) at0 (pa_cons (pe_meth0 (E := E0) (pv 0) T.cl mt okt hr bt .nil pass0) pa_nil))), ?_⟩
    refine em_tk (σ := [some (.ref r)]) (f := V.str) (ok := fun _ => True) rfl rd ht trivial (rd_no (by decide +kernel) (by decide +kernel) (by decide +kernel)) _ (fun v H1 e1 ⟨hv, rd1⟩ => ?_)
    subst hv
    exact ⟨t, rfl, hsh, fun H2 e2 => q H2 (e1.trans (.of e2)) (rd1.ex e2)⟩
theorem scTl : FnScope ["self", "listed", "token"] ["self"] (defScope (inClass (topS 38) 4)) := ⟨rfl, rfl, rfl, by decide +kernel, rfl, by decide +kernel, by decide +kernel⟩
theorem ok_tl {f : Addr} {fd : FuncData} (F : Fun K "take_list" "Reader.take_list" (inClass (topS 38) 4) f fd) (T : RdT K mg CR) (ME : MthX P w K mg base CR 3 "expect" ["self", "word"] (spExp CR)) (MT : MthX P w K mg base CR 2 "take_token" ["self"] (spTk CR V.str fun _ => True)) : FnOk P w K mg base CX0 4 f fd ["self"] (spLst CR) := by
  obtain ⟨fe, fde, me, oke, be⟩ := ME
  obtain ⟨ft, fdt, mt, okt, bt⟩ := MT
  refine F.ok (k := 3) scTl (fun vs H Q E h => ?_) (fun cdv A outer s H vs Q E hr h => ?_)
  · obtain ⟨r, tl, toks, i, x, ns, post, rfl, _⟩ := h
    rfl
  · obtain ⟨r, tl, toks, i, x, ns, post, rfl, rd, ht, hn, hlen, q⟩ := h
    refine ⟨_, pss_cons (ps_expr (pe_meth (E := E0) (pv 0) T.cl me oke hr be .nil pass0 (pa_cons pe_str pa_nil)))
      (pss_cons (ps_set (i := 1) scTl.nd rfl (Or.inl rfl) (pe_lst pa_nil))
      (pss_cons (ps_whileW PassesOwn.never (ptw_cmp op_ne (pew_named (i := 2) scTl.nd rfl (Or.inl rfl) (pew_of (pe_meth0 (E := E0) (pv 0) T.cl mt okt (hr.mono (by decide)) bt .nil pass0))) pe_str (nomark _))
        (pss_one (ps_expr (pe_bm PySem.F.plainAttrs_list PySem.F.slot_list_append PySem.F.type_list_append mt_append (pv 1) (pa_cons (pv 2) pa_nil)))) pss_nil)
      (pss_one (ps_ret (pv 1))))), ?_⟩
    obtain ⟨t0, d0⟩ := drop_at ht
    refine q_dropM (r := r) (em_exp (σ := [some (.ref r), none, none]) rfl rd t0 ev_c) (fun v H1 e1 ⟨_, rd1⟩ => ?_)
    refine ⟨by show 0 ≤ sizeLine; decide, fun l hl => ?_⟩
    have hlH : H l = none := rd.fresh e1 hl rd1.some
    have nlr : l ≠ r := fun z => by
      rw [z] at hl
      exact rd1.some hl
    have nlt : l ≠ tl := fun z => by
      obtain ⟨dx, g1, g2⟩ := rd1
      rw [z, g2] at hl
      cases hl
    refine ⟨fun m σ' H' => ∃ (j : Nat) (v2 : Option V), j + m = ns.length ∧ σ' = [some (.ref r), some (.ref l), v2] ∧ ExA r H H' ∧ H' l = some (.lst ((ns.take j).map V.str)) ∧ RdAt CR H' r tl toks (i + 1 + j) x,
      ⟨ns.length, 0, none, by omega, rfl, e1.mut hlH, by rw [List.take_zero]; exact upd_same, rd1.upd nlr nlt⟩, fun m σ' H' ⟨j, v2, hj, hσ, he, hl', rd'⟩ => ?_⟩
    subst hσ
    have dj : toks.drop (i + 1 + j) = (ns ++ (")" : Str) :: post).drop j := by rw [← List.drop_drop, d0]
    by_cases hjl : j < ns.length
    · have hz : ns[j]? = some ns[j] := List.getElem?_eq_getElem hjl
      have htj : toks[i + 1 + j]? = some ns[j] := by
        have : (toks.drop (i + 1 + j))[0]? = some ns[j] := by rw [dj, List.getElem?_drop, Nat.add_zero, List.getElem?_append_left hjl]; exact hz
        rw [List.getElem?_drop, Nat.add_zero] at this
        exact this
      have hm := List.getElem_mem hjl
      generalize ns[j] = tk at hz htj hm
      have hne : tk ≠ (")" : Str) := fun z => hn (z ▸ hm)
      refine em_tk (σ := [some (.ref r), some (.ref l), v2]) (f := V.str) (ok := fun _ => True) rfl rd' htj trivial (rd_no (by decide +kernel) (by decide +kernel) (by decide +kernel)) _ (fun v H2 e2 ⟨hv, rd2⟩ => ?_)
      subst hv
      refine ⟨rfl, _, rfl, ?_⟩
      rw [decide_eq_false (fun z => hne (by injection z))]
      refine if_T (c := (!false) = true) rfl ?_
      have hl2 := rd'.lst e2 hl'
      refine ⟨fun σ'' H'' => σ'' = [some (.ref r), some (.ref l), some (.str tk)] ∧ H'' = upd H2 l (.lst ((ns.take j).map V.str ++ [.str tk])), fun σ'' H'' ⟨h1, h2⟩ => ⟨m - 1, by omega, j + 1, _, by omega, h1, ?_, ?_, ?_⟩, ?_⟩
      · rw [h2]
        exact (he.trans e2).mut hlH
      · rw [h2, List.take_add_one, hz, List.map_append]
        exact upd_same
      · rw [h2]
        exact rd2.upd nlr nlt
      · exact ⟨_, rfl, .inl ⟨rfl, _, sq_of hl2⟩, _, rfl, l, _, _, rfl, rfl, hl2, sz_lt (by rw [List.length_map, List.length_take]; omega), rfl, rfl⟩
    · have hj0 : j = ns.length := by omega
      subst hj0
      have htj : toks[i + 1 + ns.length]? = some (")" : Str) := by
        have : (toks.drop (i + 1 + ns.length))[0]? = some (")" : Str) := by rw [dj, List.drop_left]; rfl
        rw [List.getElem?_drop, Nat.add_zero] at this
        exact this
      refine em_tk (σ := [some (.ref r), some (.ref l), v2]) (f := V.str) (ok := fun _ => True) rfl rd' htj trivial (rd_no (by decide +kernel) (by decide +kernel) (by decide +kernel)) _ (fun v H2 e2 ⟨hv, rd2⟩ => ?_)
      subst hv
      refine ⟨rfl, _, rfl, ?_⟩
      rw [decide_eq_true rfl]
      refine if_F (c := (!true) = true) (by decide) ?_
      have hl2 := rd'.lst e2 hl'
      rw [List.take_length] at hl2
      exact ⟨_, rfl, q l H2 hlH (he.trans e2) hl2 (by rw [show i + ns.length + 2 = i + 1 + ns.length + 1 by omega]; exact rd2)⟩
end
end Fs

set_option Elab.async false
set_option linter.all false
set_option maxRecDepth 100000
set_option maxHeartbeats 4000000
/-! the tokens of a process, told apart; what its readers promise -/
namespace Fs
open PySem L2 Evl FsE FsC FsR FsT FsK FsP
theorem ltr_no : ∀ c ∈ lettersS.cps.toList, c ≠ 45 ∧ isDig c = false ∧ c ≠ 32 := by decide +kernel
theorem sign_no : ∀ c : Nat, signOk c = true → c ≠ 32 := by
  intro c h z
  subst z
  exact absurd h (by decide +kernel)
theorem nm_first {z : Str} (h : nameS z = true) : ∃ c cs, z.cps.toList = c :: cs ∧ c ∈ lettersS.cps.toList := by
  unfold nameS at h
  simp only [Bool.and_eq_true, decide_eq_true_eq] at h
  obtain ⟨⟨⟨⟨h1, _⟩, h2⟩, _⟩, _⟩ := h
  cases hq : z.cps.toList with
  | nil =>
    rw [len_l, hq] at h1
    simp at h1
  | cons c cs =>
    rw [hq] at h2
    exact ⟨c, cs, rfl, h2⟩
theorem nm_irNo {z : Str} (h : nameS z = true) : irV z = .non := by
  obtain ⟨c, cs, hc, hm⟩ := nm_first h
  obtain ⟨h1, h2, _⟩ := ltr_no c hm
  exact irV_no (ir_word hc h1 h2)
theorem nm_ne {z w : Str} (h : nameS z = true) (hw : nameS w = false) : z ≠ w := fun e => by
  rw [e, hw] at h
  cases h
theorem nm_free {z : Str} (h : nameS z = true) : (32 : Nat) ∉ z.cps.toList := by
  unfold nameS at h
  simp only [Bool.and_eq_true, decide_eq_true_eq] at h
  exact fun hm => sign_no _ (List.all_eq_true.mp h.2 _ hm) rfl
theorem or_opd {o : Opd} (h : OpdOk o) : orV (opS o) = o.v := by
  cases o with
  | int i =>
    unfold orV
    show (match irV (iS i) with
      | .int i => V.int i
      | _ => .str (iS i)) = _
    rw [ir_iS h]
    rfl
  | nm z =>
    unfold orV
    show (match irV z with
      | .int i => V.int i
      | _ => .str z) = _
    rw [nm_irNo (show WordOk z from h).nm]
    rfl
theorem ir_paren : irV (")" : Str) = .non := irV_no (by decide +kernel)
theorem opS_ne {o : Opd} (h : OpdOk o) : opS o ≠ (")" : Str) := by
  cases o with
  | int i =>
    intro e
    have h1 : irV (iS i) = .int i := ir_iS h
    have e' : iS i = (")" : Str) := e
    rw [e', ir_paren] at h1
    cases h1
  | nm z => exact nm_ne (show WordOk z from h).nm (by decide +kernel)
theorem opS_free {o : Opd} (h : OpdOk o) : (32 : Nat) ∉ (opS o).cps.toList := by
  cases o with
  | int i => exact num_free
  | nm z => exact nm_free (show WordOk z from h).nm
/-! no blank in a token -/
def Fr (xs : List Str) : Prop := ∀ t ∈ xs, (32 : Nat) ∉ t.cps.toList
theorem Fr.app {xs ys : List Str} (h1 : Fr xs) (h2 : Fr ys) : Fr (xs ++ ys) := fun t ht => (List.mem_append.mp ht).elim (h1 t) (h2 t)
theorem Fr.nil : Fr [] := fun t ht => by simp at ht
theorem Fr.cons {x : Str} {xs : List Str} (h1 : (32 : Nat) ∉ x.cps.toList) (h2 : Fr xs) : Fr (x :: xs) := fun t ht => by
  rcases List.mem_cons.mp ht with rfl | ht
  · exact h1
  · exact h2 t ht
theorem fr_map {ops : List Opd} (h : ∀ o ∈ ops, OpdOk o) : Fr (ops.map opS) := fun t ht => by
  obtain ⟨o, ho, rfl⟩ := List.mem_map.mp ht
  exact opS_free (h o ho)
theorem fr_B {xs : List Str} (h : Fr xs) : Fr (tkB xs) := ((Fr.cons (by decide +kernel) .nil).app h).app (.cons (by decide +kernel) .nil)
theorem names_nm {ns : List Str} (h : namesS ns = true) : ∀ y ∈ ns, nameS y = true := fun y hy => by
  unfold namesS at h
  exact List.all_eq_true.mp (Bool.and_eq_true_iff.mp h).1 (nameS y) (List.mem_map.mpr ⟨y, hy, rfl⟩)
theorem fr_H {c : Str} {s m : Int} {op : Opd} {ns : List Str} (h : OfOk c s m op ns) : Fr (tkH c s m op ns) := by
  unfold tkH
  refine (Fr.app (Fr.app ?_ (.cons (by decide +kernel) .nil)) (fr_B fun t ht => nm_free (names_nm h.nd t ht))).app (.cons (by decide +kernel) .nil)
  exact .cons (nm_free h.ch.nm) (.cons num_free (.cons (by decide +kernel) (.cons num_free (.cons (by decide +kernel) (.cons (opS_free h.op) .nil)))))
mutual
theorem fr_P : ∀ p : Pr, AlP p → Fr (tkP p)
  | .choice .nil, _ => by
    rw [tkP]
    exact .cons (by decide +kernel) .nil
  | .choice (.cons c s m op ns r os), h => by
    unfold AlP at h
    have h2 := h.2
    unfold AlO at h2
    rw [tkP]
    exact ((Fr.cons (by decide +kernel) .nil).app (((fr_H h2.1).app (fr_P r h2.2.1)).app (fr_Os os h2.2.2))).app (.cons (by decide +kernel) .nil)
  | .new n k r, h => by
    unfold AlP at h
    rw [tkP]
    exact (Fr.cons (by decide +kernel) (.cons (nm_free h.1.nm) (.cons num_free .nil))).app (fr_P r h.2.2.2)
  | .cond l r y n, h => by
    unfold AlP at h
    rw [tkP]
    exact (((Fr.cons (by decide +kernel) (.cons (opS_free h.1) (.cons (by decide +kernel) (.cons (opS_free h.2.1) (.cons (by decide +kernel) .nil))))).app (fr_P y h.2.2.1)).app (.cons (by decide +kernel) .nil)).app (fr_P n h.2.2.2)
  | .call n ops, h => by
    unfold AlP at h
    rw [tkP]
    exact (Fr.cons (nm_free h.1.nm) .nil).app (fr_B (fr_map h.2.2))
theorem fr_Os : ∀ os : Ofs, AlO os → Fr (tkOs os)
  | .nil, _ => by
    rw [tkOs]
    exact .nil
  | .cons c s m op ns r os, h => by
    unfold AlO at h
    rw [tkOs]
    exact ((Fr.cons (by decide +kernel) .nil).app ((fr_H h.1).app (fr_P r h.2.1))).app (fr_Os os h.2.2)
end
/-! the shapes -/
theorem dk_new {n : Str} {k : Int} {r : Pr} {post : List Str} : tkP (.new n k r) ++ post = ("new" : Str) :: n :: iS k :: (tkP r ++ post) := by
  rw [tkP]
  rfl
theorem dk_cond {l r : Opd} {y n : Pr} {post : List Str} : tkP (.cond l r y n) ++ post = ("if" : Str) :: opS l :: ("=" : Str) :: opS r :: ("then" : Str) :: (tkP y ++ ("else" : Str) :: (tkP n ++ post)) := by
  rw [tkP]
  simp only [List.append_assoc, List.cons_append, List.nil_append]
theorem dk_call {n : Str} {ops : List Opd} {post : List Str} : tkP (.call n ops) ++ post = n :: ("(" : Str) :: (ops.map opS ++ (")" : Str) :: post) := by
  rw [tkP]
  unfold tkB
  simp only [List.append_assoc, List.cons_append, List.nil_append]
theorem dk_of {c : Str} {s m : Int} {op : Opd} {ns : List Str} {r : Pr} {post : List Str} : tkO c s m op ns r ++ post = c :: iS s :: ("/" : Str) :: iS m :: ("put" : Str) :: opS op :: ("get" : Str) :: ("(" : Str) :: (ns ++ (")" : Str) :: ("then" : Str) :: (tkP r ++ post)) := by
  unfold tkO tkH tkB
  simp only [List.append_assoc, List.cons_append, List.nil_append]
theorem dk_os {c : Str} {s m : Int} {op : Opd} {ns : List Str} {r : Pr} {os : Ofs} {post : List Str} : tkOs (.cons c s m op ns r os) ++ post = ("+" : Str) :: (tkO c s m op ns r ++ (tkOs os ++ post)) := by
  rw [tkOs]
  unfold tkO
  simp only [List.append_assoc, List.cons_append, List.nil_append]
theorem tkO_len {c : Str} {s m : Int} {op : Opd} {ns : List Str} {r : Pr} : (tkO c s m op ns r).length = ns.length + 10 + (tkP r).length := by
  unfold tkO
  rw [List.length_append, tkH_len]
/-! the readers' promises -/
/-- what is read at the end -/
def RdEnd (CR C : Addr) (H : Hp) (r tl : Addr) (toks : List Str) (i n : Nat) (x : V) (p : Pr) (Q : VK) : Prop := ∀ c H', H c = none → ExA r H H' → RdAt CR H' r tl toks (i + n) x → PrAt C H' c p → Q (.ref c) H'
def spTP (CR C : Addr) (d : Nat) : Sp := fun vs H Q _ => ∃ (r tl : Addr) (toks : List Str) (i : Nat) (x : V) (l : Int) (p : Pr) (post : List Str), vs = [.ref r, .int l] ∧ RdAt CR H r tl toks i x ∧ toks.drop i = tkP p ++ post ∧ AlP p ∧ p.depth ≤ (d : Int) ∧ 1 ≤ l ∧ l + p.depth ≤ 21 ∧ p.size ≤ 400 ∧
  RdEnd CR C H r tl toks i (tkP p).length x p Q
/-- behind the first word -/
def spT1 (CR C : Addr) (d : Nat) (ok : Pr → Prop) : Sp := fun vs H Q _ => ∃ (r tl : Addr) (toks : List Str) (i : Nat) (x : V) (l : Int) (p : Pr) (z : Str) (ts post : List Str), vs = [.ref r, .int l] ∧ RdAt CR H r tl toks i x ∧ ok p ∧ tkP p ++ post = z :: ts ∧ toks.drop i = ts ∧ AlP p ∧ p.depth ≤ (d : Int) + 1 ∧ 1 ≤ l ∧ l + p.depth ≤ 21 ∧ p.size ≤ 400 ∧
  ∀ c H', H c = none → ExA r H H' → RdAt CR H' r tl toks (i + ((tkP p).length - 1)) x → PrAt C H' c p → Q (.ref c) H'
def spTO (CR C : Addr) (d : Nat) : Sp := fun vs H Q _ => ∃ (r tl : Addr) (toks : List Str) (i : Nat) (x : V) (l : Int) (c : Str) (s m : Int) (op : Opd) (ns : List Str) (p : Pr) (post : List Str), vs = [.ref r, .int l] ∧ RdAt CR H r tl toks i x ∧ toks.drop i = tkO c s m op ns p ++ post ∧ OfOk c s m op ns ∧ AlP p ∧ p.depth ≤ (d : Int) ∧ 1 ≤ l ∧ l + 1 + p.depth ≤ 21 ∧ p.size ≤ 399 ∧
  RdEnd CR C H r tl toks i (tkO c s m op ns p).length x (.choice (.cons c s m op ns p .nil)) Q
section
variable {σ : L2.St} {H : Hp} {CR C r tl : Addr} {toks : List Str} {i : Nat} {x : V} {te : TE} {l : Int}
theorem em_tp {d : Nat} {p : Pr} {post : List Str} (s0 : σ[0]? = some (some (.ref r))) (hl : Ev te σ H (.int l)) (rd : RdAt CR H r tl toks i x) (ht : toks.drop i = tkP p ++ post) (al : AlP p) (hd : p.depth ≤ (d : Int)) (l1 : 1 ≤ l) (l2 : l + p.depth ≤ 21) (hs : p.size ≤ 400) :
    EvM (tMeth CR "take_process" (spTP CR C d) [] E0 (tVar 0) (tCons te tNil)) σ H r (fun v H' => ∃ c, v = .ref c ∧ H c = none ∧ RdAt CR H' r tl toks (i + (tkP p).length) x ∧ PrAt C H' c p) := fun Q q => by
  obtain ⟨dx, h1, h2⟩ := id rd
  exact ⟨_, s0, r, dx, _, rfl, h1, rd_no (by decide +kernel) (by decide +kernel) (by decide +kernel), hl H (Ex.refl H) _ fun H1 e1 => ⟨r, tl, toks, i, x, l, p, post, rfl, rd.ex e1, ht, al, hd, l1, l2, hs, fun c H' hc e rd' hp => q _ H' ((ExA.of e1).trans e) ⟨c, rfl, fresh_back e1 hc, rd', hp⟩⟩⟩
theorem em_to {d : Nat} {c : Str} {s m : Int} {op : Opd} {ns : List Str} {p : Pr} {post : List Str} (s0 : σ[0]? = some (some (.ref r))) (hl : Ev te σ H (.int l)) (rd : RdAt CR H r tl toks i x) (ht : toks.drop i = tkO c s m op ns p ++ post) (ok : OfOk c s m op ns) (al : AlP p) (hd : p.depth ≤ (d : Int)) (l1 : 1 ≤ l) (l2 : l + 1 + p.depth ≤ 21) (hs : p.size ≤ 399) :
    EvM (tMeth CR "take_offer" (spTO CR C d) [] E0 (tVar 0) (tCons te tNil)) σ H r (fun v H' => ∃ b, v = .ref b ∧ H b = none ∧ RdAt CR H' r tl toks (i + (tkO c s m op ns p).length) x ∧ PrAt C H' b (.choice (.cons c s m op ns p .nil))) := fun Q q => by
  obtain ⟨dx, h1, h2⟩ := id rd
  exact ⟨_, s0, r, dx, _, rfl, h1, rd_no (by decide +kernel) (by decide +kernel) (by decide +kernel), hl H (Ex.refl H) _ fun H1 e1 => ⟨r, tl, toks, i, x, l, c, s, m, op, ns, p, post, rfl, rd.ex e1, ht, ok, al, hd, l1, l2, hs, fun b H' hc e rd' hp => q _ H' ((ExA.of e1).trans e) ⟨b, rfl, fresh_back e1 hc, rd', hp⟩⟩⟩
theorem em_t1 {m : Str} {d : Nat} {ok : Pr → Prop} {p : Pr} {z : Str} {ts post : List Str} (hm : List.lookup m (rdF tl i x) = none) (s0 : σ[0]? = some (some (.ref r))) (hl : Ev te σ H (.int l)) (rd : RdAt CR H r tl toks i x) (hok : ok p) (hz : tkP p ++ post = z :: ts) (ht : toks.drop i = ts) (al : AlP p) (hd : p.depth ≤ (d : Int) + 1) (l1 : 1 ≤ l) (l2 : l + p.depth ≤ 21) (hs : p.size ≤ 400) :
    EvM (tMeth CR m (spT1 CR C d ok) [] E0 (tVar 0) (tCons te tNil)) σ H r (fun v H' => ∃ c, v = .ref c ∧ H c = none ∧ RdAt CR H' r tl toks (i + ((tkP p).length - 1)) x ∧ PrAt C H' c p) := fun Q q => by
  obtain ⟨dx, h1, h2⟩ := id rd
  exact ⟨_, s0, r, dx, _, rfl, h1, hm, hl H (Ex.refl H) _ fun H1 e1 => ⟨r, tl, toks, i, x, l, p, z, ts, post, rfl, rd.ex e1, hok, hz, ht, al, hd, l1, l2, hs, fun c H' hc e rd' hp => q _ H' ((ExA.of e1).trans e) ⟨c, rfl, fresh_back e1 hc, rd', hp⟩⟩⟩
theorem em_ti {t : Str} {n : Int} (s0 : σ[0]? = some (some (.ref r))) (rd : RdAt CR H r tl toks i x) (ht : toks[i]? = some t) (hs : shT t) (hn : irV t = .int n) : EvM (tMeth CR "take_int" (spTk CR irV isI) [] E0 (tVar 0) tNil) σ H r (fun v H' => v = .int n ∧ RdAt CR H' r tl toks (i + 1) x) := fun Q q =>
  em_tk s0 rd ht ⟨hs, n, hn⟩ (rd_no (by decide +kernel) (by decide +kernel) (by decide +kernel)) Q fun v H' e ⟨hv, rd'⟩ => q v H' e ⟨hv.trans hn, rd'⟩
theorem em_opd {o : Opd} (s0 : σ[0]? = some (some (.ref r))) (rd : RdAt CR H r tl toks i x) (ht : toks[i]? = some (opS o)) (ho : OpdOk o) : EvM (tMeth CR "take_operand" (spTk CR orV shT) [] E0 (tVar 0) tNil) σ H r (fun v H' => v = o.v ∧ RdAt CR H' r tl toks (i + 1) x) := fun Q q =>
  em_tk s0 rd ht (by have := opS_len ho; unfold shT; omega) (rd_no (by decide +kernel) (by decide +kernel) (by decide +kernel)) Q fun v H' e ⟨hv, rd'⟩ => q v H' e ⟨hv.trans (or_opd ho), rd'⟩
theorem em_word {t : Str} (s0 : σ[0]? = some (some (.ref r))) (rd : RdAt CR H r tl toks i x) (ht : toks[i]? = some t) : EvM (tMeth CR "take_token" (spTk CR V.str fun _ => True) [] E0 (tVar 0) tNil) σ H r (fun v H' => v = .str t ∧ RdAt CR H' r tl toks (i + 1) x) := fun Q q =>
  em_tk s0 rd ht trivial (rd_no (by decide +kernel) (by decide +kernel) (by decide +kernel)) Q q
end
theorem iS_sh {i : Int} (h : -(10 ^ 30) < i ∧ i < 10 ^ 30) : shT (iS i) := by
  have := int_len h
  unfold shT
  show (Str.ofString (toString i)).length ≤ 40000
  omega
end Fs

set_option Elab.async false
set_option linter.all false
set_option maxRecDepth 100000
set_option maxHeartbeats 8000000
/-! new, if, an offer read -/
namespace Fs
open PySem L2 Evl FsE FsC FsR FsT FsK FsP
def isNw (p : Pr) : Prop := ∃ n k r, p = .new n k r
def isIf (p : Pr) : Prop := ∃ l r y n, p = .cond l r y n
def isChs (p : Pr) : Prop := ∃ c s m op ns r os, p = .choice (.cons c s m op ns r os)
structure RdM (P : Program) (w : World) (K : PySem.W.Frag) (mg : Str → Option Value) (base : Heap) (CR : Addr) : Prop where
  req : MthX P w K mg base CR 1 "require" ["self", "allowed"] spReq
  tok : MthX P w K mg base CR 2 "take_token" ["self"] (spTk CR V.str fun _ => True)
  int : MthX P w K mg base CR 3 "take_int" ["self"] (spTk CR irV isI)
  exp : MthX P w K mg base CR 3 "expect" ["self", "word"] (spExp CR)
  opd : MthX P w K mg base CR 3 "take_operand" ["self"] (spTk CR orV shT)
  lst : MthX P w K mg base CR 4 "take_list" ["self"] (spLst CR)
section
variable {P : Program} {w : World} {K : PySem.W.Frag} {mg : Str → Option Value} {base : Heap} {CR C CB : Addr} {k d : Nat}
theorem scTn : FnScope ["self", "level", "name", "seats"] ["self", "level"] (defScope (inClass (topS 38) 8)) := ⟨rfl, rfl, rfl, by decide +kernel, rfl, by decide +kernel, by decide +kernel⟩
theorem ok_tn {f : Addr} {fd : FuncData} (hk : 5 ≤ k) (F : Fun K "take_new" "Reader.take_new" (inClass (topS 38) 8) f fd) (T : RdT K mg CR) (S : StaT P w K mg base C CB 5) (M : RdM P w K mg base CR) (MP : MthX P w K mg base CR k "take_process" ["self", "level"] (spTP CR C d)) : FnOk P w K mg base CX0 (k + 1) f fd ["self", "level"] (spT1 CR C d isNw) := by
  obtain ⟨ft, fdt, mt, okt, bt⟩ := M.tok
  obtain ⟨fi, fdi, mi, oki, bi⟩ := M.int
  obtain ⟨fp, fdp, mp, okp, bp⟩ := MP
  refine F.ok scTn (fun vs H Q E h => ?_) (fun cdv A outer s H vs Q E hr h => ?_)
  · obtain ⟨r, tl, toks, i, x, l, p, z, ts, post, rfl, _⟩ := h
    rfl
  · obtain ⟨r, tl, toks, i, x, l, p, z, ts, post, rfl, rd, ⟨n, kk, q9, rfl⟩, hz, ht, al, hd, l1, l2, hs, q⟩ := h
    refine ⟨_, pss_cons (ps_set (i := 2) scTn.nd rfl (Or.inl rfl) (pe_meth0 (E := E0) (pv 0) T.cl mt okt (hr.mono (by omega)) bt .nil pass0))
      (pss_cons (ps_set (i := 3) scTn.nd rfl (Or.inl rfl) (pe_meth0 (E := E0) (pv 0) T.cl mi oki (hr.mono (by omega)) bi .nil pass0))
      (pss_one (ps_ret (pe_sx (E := fun _ => E0) S.new hr (by omega) (pe_glob (v := .ref C) (by rfl) S.mgC rfl) (fun σ => passesAt_of passL σ) (pa_cons (pv 2) (pa_cons (pv 3) (pa_cons (pe_meth (E := E0) (pv 0) T.cl mp okp hr bp .nil pass0 (pa_cons (pe_op op_add (pv 1) pe_int) pa_nil)) pa_nil))))))), ?_⟩
    have hlen : (tkP (.new n kk q9)).length = (tkP q9).length + 3 := by
      rw [tkP]
      rfl
    rw [dk_new] at hz
    injection hz with _ hts
    rw [← hts] at ht
    obtain ⟨t0, d0⟩ := drop_at ht
    obtain ⟨t1, d1⟩ := drop_at d0
    have al' := al
    unfold AlP at al'
    obtain ⟨w1, k1, k4, a1⟩ := al'
    have hd' := hd
    have l2' := l2
    have hs' := hs
    rw [Pr.depth] at hd' l2'
    rw [Pr.size] at hs'
    have kb : -(10 ^ 30) < kk ∧ kk < 10 ^ 30 := ⟨by omega, by omega⟩
    refine q_asgM (em_word rfl rd t0) (fun v H1 e1 ⟨hv, rd1⟩ => ?_)
    subst hv
    refine q_asgM (em_ti rfl rd1 t1 (iS_sh kb) (ir_iS kb)) (fun v H2 e2 ⟨hv, rd2⟩ => ?_)
    subst hv
    refine ⟨rfl, _, rfl, _, rfl, em_tp (σ := [some (.ref r), some (.int l), some (.str n), some (.int kk)]) (l := l + 1) rfl (ev_op (ev_var rfl) ev_c rv_I0) rd2 d1 a1 (by omega) (by omega) (by omega) (by omega) _ (fun v H3 e3 ⟨c, hv, hc, rd3, hp⟩ => ?_)⟩
    subst hv
    refine ⟨n, kk, c, q9, rfl, by have := w1.len; omega, hp, fun _ b H4 hb e4 hp4 => ?_, fun f hf => by
      rw [bn_none w1 k1 k4 (by omega) hs] at hf
      cases hf⟩
    have e24 := ((e1.trans e2).trans e3).trans (ExA.of e4)
    exact q b H4 (rd.fresh ((e1.trans e2).trans e3) hb rd3.some) e24 (by rw [hlen, show i + ((tkP q9).length + 3 - 1) = i + 1 + 1 + (tkP q9).length by omega]; exact rd3.ex e4) hp4
theorem scTw : FnScope ["self", "level", "left", "right", "yes"] ["self", "level"] (defScope (inClass (topS 38) 9)) := ⟨rfl, rfl, rfl, by decide +kernel, rfl, by decide +kernel, by decide +kernel⟩
theorem ok_tw {f : Addr} {fd : FuncData} (hk : 5 ≤ k) (nC : CR ≠ C) (F : Fun K "take_when" "Reader.take_when" (inClass (topS 38) 9) f fd) (T : RdT K mg CR) (S : StaT P w K mg base C CB 5) (M : RdM P w K mg base CR) (MP : MthX P w K mg base CR k "take_process" ["self", "level"] (spTP CR C d)) : FnOk P w K mg base CX0 (k + 1) f fd ["self", "level"] (spT1 CR C d isIf) := by
  obtain ⟨fo, fdo, mo, oko, bo⟩ := M.opd
  obtain ⟨fe, fde, me, oke, be⟩ := M.exp
  obtain ⟨fp, fdp, mp, okp, bp⟩ := MP
  refine F.ok scTw (fun vs H Q E h => ?_) (fun cdv A outer s H vs Q E hr h => ?_)
  · obtain ⟨r, tl, toks, i, x, l, p, z, ts, post, rfl, _⟩ := h
    rfl
  · obtain ⟨r, tl, toks, i, x, l, p, z, ts, post, rfl, rd, ⟨lo, ro, y, n, rfl⟩, hz, ht, al, hd, l1, l2, hs, q⟩ := h
    refine ⟨_, pss_cons (ps_set (i := 2) scTw.nd rfl (Or.inl rfl) (pe_meth0 (E := E0) (pv 0) T.cl mo oko (hr.mono (by omega)) bo .nil pass0))
      (pss_cons (ps_expr (pe_meth (E := E0) (pv 0) T.cl me oke (hr.mono (by omega)) be .nil pass0 (pa_cons pe_str pa_nil)))
      (pss_cons (ps_set (i := 3) scTw.nd rfl (Or.inl rfl) (pe_meth0 (E := E0) (pv 0) T.cl mo oko (hr.mono (by omega)) bo .nil pass0))
      (pss_cons (ps_expr (pe_meth (E := E0) (pv 0) T.cl me oke (hr.mono (by omega)) be .nil pass0 (pa_cons pe_str pa_nil)))
      (pss_cons (ps_set (i := 4) scTw.nd rfl (Or.inl rfl) (pe_meth (E := E0) (pv 0) T.cl mp okp hr bp .nil pass0 (pa_cons (pe_op op_add (pv 1) pe_int) pa_nil)))
      (pss_cons (ps_expr (pe_meth (E := E0) (pv 0) T.cl me oke (hr.mono (by omega)) be .nil pass0 (pa_cons pe_str pa_nil)))
      (pss_one (ps_ret (pe_sx (E := fun _ => E0) S.when hr (by omega) (pe_glob (v := .ref C) (by rfl) S.mgC rfl) (fun σ => passesAt_of passL σ) (pa_cons (pv 2) (pa_cons (pv 3) (pa_cons (pv 4) (pa_cons (pe_meth (E := E0) (pv 0) T.cl mp okp hr bp .nil pass0 (pa_cons (pe_op op_add (pv 1) pe_int) pa_nil)) pa_nil)))))))))))), ?_⟩
    have hlen : (tkP (.cond lo ro y n)).length = (tkP y).length + (tkP n).length + 6 := by
      rw [tkP]
      simp only [List.length_append, List.length_cons, List.length_nil]
      omega
    rw [dk_cond] at hz
    injection hz with _ hts
    rw [← hts] at ht
    obtain ⟨t0, d0⟩ := drop_at ht
    obtain ⟨t1, d1⟩ := drop_at d0
    obtain ⟨t2, d2⟩ := drop_at d1
    obtain ⟨t3, d3⟩ := drop_at d2
    have al' := al
    unfold AlP at al'
    obtain ⟨w1, w2, a1, a2⟩ := al'
    have hd' := hd
    have l2' := l2
    have hs' := hs
    rw [Pr.depth] at hd' l2'
    rw [Pr.size] at hs'
    have py := Pr.size_pos y
    have pn := Pr.size_pos n
    refine q_asgM (em_opd rfl rd t0 w1) (fun v H1 e1 ⟨hv, rd1⟩ => ?_)
    subst hv
    refine q_dropM (em_exp (σ := [some (.ref r), some (.int l), some lo.v, none, none]) rfl rd1 t1 ev_c) (fun v H2 e2 ⟨_, rd2⟩ => ?_)
    refine q_asgM (em_opd rfl rd2 t2 w2) (fun v H3 e3 ⟨hv, rd3⟩ => ?_)
    subst hv
    refine q_dropM (em_exp (σ := [some (.ref r), some (.int l), some lo.v, some ro.v, none]) rfl rd3 t3 ev_c) (fun v H4 e4 ⟨_, rd4⟩ => ?_)
    refine q_asgM (em_tp (σ := [some (.ref r), some (.int l), some lo.v, some ro.v, none]) (l := l + 1) rfl (ev_op (ev_var rfl) ev_c rv_I0) rd4 d3 a1 (by omega) (by omega) (by omega) (by omega)) (fun v H5 e5 ⟨c, hv, hc, rd5, hp⟩ => ?_)
    subst hv
    have d4 : toks.drop (i + 1 + 1 + 1 + 1 + (tkP y).length) = ("else" : Str) :: (tkP n ++ post) := by rw [← List.drop_drop, d3, List.drop_left]
    obtain ⟨t4, d5⟩ := drop_at d4
    refine q_dropM (em_exp (σ := [some (.ref r), some (.int l), some lo.v, some ro.v, some (.ref c)]) rfl rd5 t4 ev_c) (fun v H6 e6 ⟨_, rd6⟩ => ?_)
    have hp6 := hp.keepC (rd5.exC nC e6)
    refine ⟨rfl, _, rfl, _, rfl, _, rfl, em_tp (σ := [some (.ref r), some (.int l), some lo.v, some ro.v, some (.ref c)]) (l := l + 1) rfl (ev_op (ev_var rfl) ev_c rv_I0) rd6 d5 a2 (by omega) (by omega) (by omega) (by omega) _ (fun v H7 e7 ⟨b, hv, hb, rd7, hpb⟩ => ?_)⟩
    subst hv
    have e17 := (((((e1.trans e2).trans e3).trans e4).trans e5).trans e6).trans e7
    refine ⟨lo, ro, c, b, y, n, rfl, opdOk_ok w1, opdOk_ok w2, hp6.keepC (rd6.exC nC e7), hpb, fun _ g H8 hg e8 hp8 => ?_, fun f hf => by
      rw [bw_none w1 w2 (by omega) hs] at hf
      cases hf⟩
    exact q g H8 (rd.fresh e17 hg rd7.some) (e17.trans (.of e8)) (by rw [hlen, show i + ((tkP y).length + (tkP n).length + 6 - 1) = i + 1 + 1 + 1 + 1 + (tkP y).length + 1 + (tkP n).length by omega]; exact rd7.ex e8) hp8
theorem scTOf : FnScope ["self", "level", "channel", "seat", "seats", "operand", "names"] ["self", "level"] (defScope (inClass (topS 38) 7)) := ⟨rfl, rfl, rfl, by decide +kernel, rfl, by decide +kernel, by decide +kernel⟩
theorem ok_tof {f : Addr} {fd : FuncData} (hk : 5 ≤ k) (nC : CR ≠ C) (F : Fun K "take_offer" "Reader.take_offer" (inClass (topS 38) 7) f fd) (T : RdT K mg CR) (S : StaT P w K mg base C CB 5) (M : RdM P w K mg base CR) (MP : MthX P w K mg base CR k "take_process" ["self", "level"] (spTP CR C d)) : FnOk P w K mg base CX0 (k + 1) f fd ["self", "level"] (spTO CR C d) := by
  obtain ⟨ft, fdt, mt, okt, bt⟩ := M.tok
  obtain ⟨fi, fdi, mi, oki, bi⟩ := M.int
  obtain ⟨fo, fdo, mo, oko, bo⟩ := M.opd
  obtain ⟨fe, fde, me, oke, be⟩ := M.exp
  obtain ⟨fl, fdl, ml, okl, bl⟩ := M.lst
  obtain ⟨fp, fdp, mp, okp, bp⟩ := MP
  refine F.ok scTOf (fun vs H Q E h => ?_) (fun cdv A outer s H vs Q E hr h => ?_)
  · obtain ⟨r, tl, toks, i, x, l, c, s, m, op, ns, p, post, rfl, _⟩ := h
    rfl
  · obtain ⟨r, tl, toks, i, x, l, c, s, m, op, ns, p, post, rfl, rd, ht, ok, al, hd, l1, l2, hs, q⟩ := h
    refine ⟨_, pss_cons (ps_set (i := 2) scTOf.nd rfl (Or.inl rfl) (pe_meth0 (E := E0) (pv 0) T.cl mt okt (hr.mono (by omega)) bt .nil pass0))
      (pss_cons (ps_set (i := 3) scTOf.nd rfl (Or.inl rfl) (pe_meth0 (E := E0) (pv 0) T.cl mi oki (hr.mono (by omega)) bi .nil pass0))
      (pss_cons (ps_expr (pe_meth (E := E0) (pv 0) T.cl me oke (hr.mono (by omega)) be .nil pass0 (pa_cons pe_str pa_nil)))
      (pss_cons (ps_set (i := 4) scTOf.nd rfl (Or.inl rfl) (pe_meth0 (E := E0) (pv 0) T.cl mi oki (hr.mono (by omega)) bi .nil pass0))
      (pss_cons (ps_expr (pe_meth (E := E0) (pv 0) T.cl me oke (hr.mono (by omega)) be .nil pass0 (pa_cons pe_str pa_nil)))
      (pss_cons (ps_set (i := 5) scTOf.nd rfl (Or.inl rfl) (pe_meth0 (E := E0) (pv 0) T.cl mo oko (hr.mono (by omega)) bo .nil pass0))
      (pss_cons (ps_expr (pe_meth (E := E0) (pv 0) T.cl me oke (hr.mono (by omega)) be .nil pass0 (pa_cons pe_str pa_nil)))
      (pss_cons (ps_set (i := 6) scTOf.nd rfl (Or.inl rfl) (pe_meth0 (E := E0) (pv 0) T.cl ml okl (hr.mono (by omega)) bl .nil pass0))
      (pss_cons (ps_expr (pe_meth (E := E0) (pv 0) T.cl me oke (hr.mono (by omega)) be .nil pass0 (pa_cons pe_str pa_nil)))
      (pss_one (ps_ret (pe_sx (E := fun _ => E0) S.offer hr (by omega) (pe_glob (v := .ref C) (by rfl) S.mgC rfl) (fun σ => passesAt_of passL σ) (pa_cons (pv 2) (pa_cons (pv 3) (pa_cons (pv 4) (pa_cons (pv 5) (pa_cons (pv 6) (pa_cons (pe_meth (E := E0) (pv 0) T.cl mp okp hr bp .nil pass0 (pa_cons (pe_op op_add (pv 1) pe_int) pa_nil)) pa_nil))))))))))))))))), ?_⟩
    have hlen := tkO_len (c := c) (s := s) (m := m) (op := op) (ns := ns) (r := p)
    rw [dk_of] at ht
    obtain ⟨t0, d0⟩ := drop_at ht
    obtain ⟨t1, d1⟩ := drop_at d0
    obtain ⟨t2, d2⟩ := drop_at d1
    obtain ⟨t3, d3⟩ := drop_at d2
    obtain ⟨t4, d4⟩ := drop_at d3
    obtain ⟨t5, d5⟩ := drop_at d4
    obtain ⟨t6, d6⟩ := drop_at d5
    have m1 := ok.m1
    have m4 := ok.m4
    have s0 := ok.s0
    have s1 := ok.s1
    have sb : -(10 ^ 30) < s ∧ s < 10 ^ 30 := ⟨by omega, by omega⟩
    have mb : -(10 ^ 30) < m ∧ m < 10 ^ 30 := ⟨by omega, by omega⟩
    have nl := ns_len ok
    have nn := names_nm ok.nd
    have npar : (")" : Str) ∉ ns := fun hm => nm_ne (nn _ hm) (by decide +kernel) rfl
    refine q_asgM (em_word rfl rd t0) (fun v H1 e1 ⟨hv, rd1⟩ => ?_)
    subst hv
    refine q_asgM (em_ti rfl rd1 t1 (iS_sh sb) (ir_iS sb)) (fun v H2 e2 ⟨hv, rd2⟩ => ?_)
    subst hv
    refine q_dropM (em_exp (σ := [some (.ref r), some (.int l), some (.str c), some (.int s), none, none, none]) rfl rd2 t2 ev_c) (fun v H3 e3 ⟨_, rd3⟩ => ?_)
    refine q_asgM (em_ti rfl rd3 t3 (iS_sh mb) (ir_iS mb)) (fun v H4 e4 ⟨hv, rd4⟩ => ?_)
    subst hv
    refine q_dropM (em_exp (σ := [some (.ref r), some (.int l), some (.str c), some (.int s), some (.int m), none, none]) rfl rd4 t4 ev_c) (fun v H5 e5 ⟨_, rd5⟩ => ?_)
    refine q_asgM (em_opd rfl rd5 t5 ok.op) (fun v H6 e6 ⟨hv, rd6⟩ => ?_)
    subst hv
    refine q_dropM (em_exp (σ := [some (.ref r), some (.int l), some (.str c), some (.int s), some (.int m), some op.v, none]) rfl rd6 t6 ev_c) (fun v H7 e7 ⟨_, rd7⟩ => ?_)
    refine q_asgM (em_lst rfl rd7 d6 npar (by omega)) (fun v H8 e8 ⟨u, hv, hu, hul, rd8⟩ => ?_)
    subst hv
    have d7 : toks.drop (i + 1 + 1 + 1 + 1 + 1 + 1 + 1 + ns.length + 2) = ("then" : Str) :: (tkP p ++ post) := by
      rw [show i + 1 + 1 + 1 + 1 + 1 + 1 + 1 + ns.length + 2 = (i + 1 + 1 + 1 + 1 + 1 + 1 + 1) + (1 + (ns.length + 1)) by omega, ← List.drop_drop, d6, ← List.drop_drop]
      show ((ns ++ (")" : Str) :: ("then" : Str) :: (tkP p ++ post))).drop (ns.length + 1) = _
      rw [← List.drop_drop, List.drop_left]
      rfl
    obtain ⟨t7, d8⟩ := drop_at d7
    refine q_dropM (em_exp (σ := [some (.ref r), some (.int l), some (.str c), some (.int s), some (.int m), some op.v, some (.ref u)]) rfl rd8 t7 ev_c) (fun v H9 e9 ⟨_, rd9⟩ => ?_)
    refine ⟨rfl, _, rfl, _, rfl, _, rfl, _, rfl, _, rfl, em_tp (σ := [some (.ref r), some (.int l), some (.str c), some (.int s), some (.int m), some op.v, some (.ref u)]) (l := l + 1) rfl (ev_op (ev_var rfl) ev_c rv_I0) rd9 d8 al hd (by omega) (by omega) (by omega) _ (fun v H10 e10 ⟨b, hv, hb, rd10, hpb⟩ => ?_)⟩
    subst hv
    have hu10 := rd9.lst e10 (rd8.lst e9 hul)
    have e1A := (((((((((e1.trans e2).trans e3).trans e4).trans e5).trans e6).trans e7).trans e8).trans e9).trans e10)
    have oD : (Ofs.cons c s m op ns p .nil).depth = max p.depth 0 := by rw [Ofs.depth, Ofs.depth]
    have oS : (Ofs.cons c s m op ns p .nil).sum = p.size + 0 := by rw [Ofs.sum, Ofs.sum]
    have oL : (Ofs.cons c s m op ns p .nil).len = 1 := rfl
    have p6 := Pr.depth_pos p
    have p3 := Pr.size_pos p
    refine ⟨c, s, m, op, u, ns, b, p, rfl, by have := ok.ch.len; omega, opdOk_ok ok.op, .inl hu10, by omega, fun y hy => by have := (ok.nz y hy).1; omega, hpb, fun _ g H11 hg e11 hp11 => ?_, fun f hf => by
      rw [bo_none ok (by rw [(ch_num _).1, oD]; omega) (by rw [(ch_num _).2, oS, oL]; omega)] at hf
      cases hf⟩
    exact q g H11 (rd.fresh e1A hg rd10.some) (e1A.trans (.of e11)) (by rw [hlen, show i + (ns.length + 10 + (tkP p).length) = i + 1 + 1 + 1 + 1 + 1 + 1 + 1 + ns.length + 2 + 1 + (tkP p).length by omega]; exact rd10.ex e11) hp11
end
end Fs

set_option Elab.async false
set_option linter.all false
set_option maxRecDepth 100000
set_option maxHeartbeats 8000000
/-! a choice read, a process read -/
namespace Fs
open PySem L2 Evl FsE FsC FsR FsT FsK FsP
theorem dk_ch {c : Str} {s m : Int} {op : Opd} {ns : List Str} {q : Pr} {os : Ofs} {post : List Str} : tkP (.choice (.cons c s m op ns q os)) ++ post = ("[" : Str) :: (tkO c s m op ns q ++ (tkOs os ++ ("]" : Str) :: post)) := by
  rw [tkP]
  unfold tkO
  simp only [List.append_assoc, List.cons_append, List.nil_append]
theorem ch_len {c : Str} {s m : Int} {op : Opd} {ns : List Str} {q : Pr} {os : Ofs} : (tkP (.choice (.cons c s m op ns q os))).length = (tkO c s m op ns q).length + (tkOs os).length + 2 := by
  rw [tkP]
  unfold tkO
  simp only [List.length_append, List.length_cons, List.length_nil]
  omega
theorem os_len {c : Str} {s m : Int} {op : Opd} {ns : List Str} {q : Pr} {os : Ofs} : (tkOs (.cons c s m op ns q os)).length = 1 + (tkO c s m op ns q).length + (tkOs os).length := by
  rw [tkOs]
  unfold tkO
  simp only [List.length_append, List.length_cons, List.length_nil]
section
variable {P : Program} {w : World} {K : PySem.W.Frag} {mg : Str → Option Value} {base : Heap} {CR C CB : Addr} {k d : Nat}
theorem scTc : FnScope ["self", "level", "choice", "token"] ["self", "level"] (defScope (inClass (topS 38) 6)) := ⟨rfl, rfl, rfl, by decide +kernel, rfl, by decide +kernel, by decide +kernel⟩
theorem ok_tc {f : Addr} {fd : FuncData} (hk : 5 ≤ k) (nC : CR ≠ C) (F : Fun K "take_choice" "Reader.take_choice" (inClass (topS 38) 6) f fd) (T : RdT K mg CR) (S : StaT P w K mg base C CB 5) (M : RdM P w K mg base CR) (MO : MthX P w K mg base CR k "take_offer" ["self", "level"] (spTO CR C d)) : FnOk P w K mg base CX0 (k + 1) f fd ["self", "level"] (spT1 CR C d isChs) := by
  obtain ⟨ft, fdt, mt, okt, bt⟩ := M.tok
  obtain ⟨fr, fdr, mr, okr, br⟩ := M.req
  obtain ⟨fo, fdo, mo, oko, bo⟩ := MO
  refine F.ok scTc (fun vs H Q E h => ?_) (fun cdv A outer s H vs Q E hr h => ?_)
  · obtain ⟨r, tl, toks, i, x, l, p, z, ts, post, rfl, _⟩ := h
    rfl
  · obtain ⟨r, tl, toks, i, x, l, p, z, ts, post, rfl, rd, ⟨c, s, m, op, ns, q9, os9, rfl⟩, hz, ht, al, hd, l1, l2, hs, q⟩ := h
    obtain ⟨g, fdg, psg, OM, FA, BA⟩ := S.add
    refine ⟨_, pss_cons (ps_set (i := 2) scTc.nd rfl (Or.inl rfl) (pe_meth (E := E0) (pv 0) T.cl mo oko hr bo .nil pass0 (pa_cons (pv 1) pa_nil)))
      (pss_cons (ps_whileW PassesOwn.never (ptw_cmp op_eq (pew_named (i := 3) scTc.nd rfl (Or.inl rfl) (pew_of (pe_meth0 (E := E0) (pv 0) T.cl mt okt (hr.mono (by omega)) bt .nil pass0))) pe_str (nomark _))
        (pss_one (ps_set (i := 2) scTc.nd rfl (Or.inl rfl) (pe_own (E := fun _ => E0) (pv 2) (pe_meth (E := E0) (pv 0) T.cl mo oko hr bo .nil pass0 (pa_cons (pv 1) pa_nil)) OM FA (hr.mono (by omega)) BA (fun σ => passesAt_of passL σ)))) pss_nil)
      (pss_cons (ps_expr (pe_meth (E := E0) (pv 0) T.cl mr okr (hr.mono (by omega)) br .nil pass0 (pa_cons (pe_cmpR op_eq (pv 3) pe_str (nomark _)) pa_nil)))
      (pss_one (ps_ret (pv 2))))), ?_⟩
    have hlen := ch_len (c := c) (s := s) (m := m) (op := op) (ns := ns) (q := q9) (os := os9)
    rw [dk_ch] at hz
    injection hz with _ hts
    rw [← hts] at ht
    generalize hwh : Ofs.cons c s m op ns q9 os9 = wh at al hd l2 hs q hlen
    obtain ⟨nd, nz⟩ := ch_num wh
    have al' := al
    unfold AlP at al'
    obtain ⟨wl, alo⟩ := al'
    have hd' := hd
    have l2' := l2
    have hs' := hs
    rw [nd] at hd' l2'
    rw [nz] at hs'
    have one : ∀ (pre : Ofs) {c s m op ns q0 os}, wh = pre.app (.cons c s m op ns q0 os) → OfOk c s m op ns ∧ AlP q0 ∧ q0.depth ≤ (d : Int) ∧ l + 1 + q0.depth ≤ 21 ∧ q0.size ≤ 399 := fun pre {c s m op ns q0 os} e => by
      rw [e] at alo wl hd' l2' hs'
      obtain ⟨_, ap⟩ := AlO.app alo
      unfold AlO at ap
      rw [Ofs.app_depth, Ofs.depth] at hd' l2'
      rw [Ofs.app_sum, Ofs.sum, Ofs.app_len] at hs'
      have p1 := Ofs.sum_nn pre
      have p2 := Ofs.sum_nn os
      have e1 : (Ofs.cons c s m op ns q0 os).len = os.len + 1 := rfl
      rw [e1] at hs'
      exact ⟨ap.1, ap.2.1, by omega, by omega, by omega⟩
    obtain ⟨o1, o2, o3, o4, o5⟩ := one .nil (show wh = (Ofs.nil).app (.cons c s m op ns q9 os9) from hwh.symm)
    refine q_asgM (em_to (σ := [some (.ref r), some (.int l), none, none]) rfl (ev_var rfl) rd ht o1 o2 o3 l1 o4 o5) (fun v H1 e1 ⟨b0, hv, hb0, rd1, hp1⟩ => ?_)
    subst hv
    have dd : toks.drop (i + (tkO c s m op ns q9).length) = tkOs os9 ++ ("]" : Str) :: post := by rw [← List.drop_drop, ht, List.drop_left]
    refine ⟨fun mm σ' H' => ∃ (b : Addr) (pre rest : Ofs) (v3 : Option V) (j : Nat), rest.len = mm ∧ σ' = [some (.ref r), some (.int l), some (.ref b), v3] ∧ wh = pre.app rest ∧ PrAt C H' b (.choice pre) ∧ RdAt CR H' r tl toks j x ∧ toks.drop j = tkOs rest ++ ("]" : Str) :: post ∧ ExA r H H' ∧ H b = none ∧ j + (tkOs rest).length + 1 = i + ((tkP (.choice wh)).length - 1),
      ⟨os9.len, b0, .cons c s m op ns q9 .nil, os9, none, _, rfl, rfl, hwh.symm, hp1, rd1, dd, e1, hb0, by rw [hlen]; omega⟩, fun mm σ' H' ⟨b, pre, rest, v3, j, hm, hσ, hw, hpb, rdj, hdj, he, hbn, hj⟩ => ?_⟩
    subst hσ
    cases rest with
    | nil =>
      have hdj' : toks.drop j = ("]" : Str) :: post := hdj
      obtain ⟨tj, dj⟩ := drop_at hdj'
      refine em_word (σ := [some (.ref r), some (.int l), some (.ref b), v3]) rfl rdj tj _ (fun v H2 e2 ⟨hv, rd2⟩ => ?_)
      subst hv
      refine ⟨rfl, _, rfl, ?_⟩
      refine if_F (c := decide (V.str ("]" : Str) = V.str "+") = true) (by decide +kernel) ?_
      have hpre : wh = pre := by rw [hw, Ofs.app_nil]
      obtain ⟨dx, g1, g2⟩ := id rd2
      refine ⟨_, rfl, r, dx, _, rfl, g1, rd_no (by decide +kernel) (by decide +kernel) (by decide +kernel), _, rfl, rfl, r, by rw [decide_eq_true rfl]; rfl, fun H3 e3 => ?_⟩
      have e13 := he.trans (e2.trans (.of e3))
      refine ⟨_, rfl, q b H3 hbn e13 (by rw [← hj]; exact rd2.ex e3) ?_⟩
      rw [hpre]
      exact (hpb.keepC (rdj.exC nC e2)).ex e3
    | cons c2 s2 m2 op2 ns2 q2 os2 =>
      rw [dk_os] at hdj
      obtain ⟨tj, dj⟩ := drop_at hdj
      obtain ⟨a1, a2, a3, a4, a5⟩ := one pre hw
      refine em_word (σ := [some (.ref r), some (.int l), some (.ref b), v3]) rfl rdj tj _ (fun v H2 e2 ⟨hv, rd2⟩ => ?_)
      subst hv
      refine ⟨rfl, _, rfl, ?_⟩
      rw [decide_eq_true rfl]
      refine if_T (c := true = true) rfl ?_
      refine ⟨_, fun σ'' H'' h => ⟨mm - 1, by rw [← hm]; show os2.len + 1 - 1 < os2.len + 1; omega, h⟩, ?_⟩
      refine ⟨_, rfl, em_to (σ := [some (.ref r), some (.int l), some (.ref b), some (.str "+")]) rfl (ev_var rfl) rd2 dj a1 a2 a3 l1 a4 a5 _ (fun v H3 e3 ⟨b2, hv, hb2, rd3, hp3⟩ => ?_)⟩
      subst hv
      have hpb3 := (hpb.keepC (rdj.exC nC e2)).keepC (rd2.exC nC e3)
      obtain ⟨tt1, xs1, ⟨dx, i1⟩, _⟩ := hpb3.out
      obtain ⟨tt2, xs2, ⟨dy, i2⟩, _⟩ := hp3.out
      have eL : wh.len = pre.len + (os2.len + 1) := by rw [hw, Ofs.app_len]; rfl
      have oD : (Ofs.cons c2 s2 m2 op2 ns2 q2 .nil).depth = max q2.depth 0 := by rw [Ofs.depth, Ofs.depth]
      have oS : (Ofs.cons c2 s2 m2 op2 ns2 q2 .nil).sum = q2.size + 0 := by rw [Ofs.sum, Ofs.sum]
      have oL : (Ofs.cons c2 s2 m2 op2 ns2 q2 .nil).len = 1 := rfl
      have eD : wh.depth = max pre.depth (max q2.depth os2.depth) := by rw [hw, Ofs.app_depth, Ofs.depth]
      have eS : wh.sum = pre.sum + (q2.size + os2.sum) := by rw [hw, Ofs.app_sum, Ofs.sum]
      have p2 := Ofs.sum_nn os2
      have p5 := Ofs.depth_nn os2
      have p6 := Pr.depth_pos q2
      refine ⟨b, b2, dx, dy, _, _, rfl, rfl, i1, i2, b, b2, .choice pre, .choice (.cons c2 s2 m2 op2 ns2 q2 .nil), rfl, hpb3, hp3, by show pre.len ≤ 40; omega, by show 1 ≤ 40; decide, fun _ c5 H5 hc5 e5 h5 => ?_, fun f hf => by
        rw [ba_none (by rw [oL]; omega) (by rw [(ch_num _).1, Ofs.app_depth, oD]; omega) (by rw [(ch_num _).2, Ofs.app_sum, Ofs.app_len, oS, oL]; omega)] at hf
        cases hf⟩
      have e15 := he.trans ((e2.trans e3).trans (.of e5))
      refine ⟨c5, pre.app (.cons c2 s2 m2 op2 ns2 q2 .nil), os2, _, j + 1 + (tkO c2 s2 m2 op2 ns2 q2).length, by rw [← hm]; rfl, rfl, by rw [Ofs.app_assoc]; exact hw, h5, rd3.ex e5, by rw [← List.drop_drop, dj, List.drop_left], e15, rd.fresh (he.trans (e2.trans e3)) hc5 rd3.some, ?_⟩
      rw [← hj, os_len]
      omega
end
end Fs

set_option Elab.async false
set_option linter.all false
set_option maxRecDepth 100000
set_option maxHeartbeats 8000000
/-! a process read -/
namespace Fs
open PySem L2 Evl FsE FsC FsR FsT FsK FsP
abbrev FunTP (K : PySem.W.Frag) (f : Addr) (fd : FuncData) : Prop := FunD K "take_process" "Reader.take_process" (defArgs (inClass (topS 38) 5)) (defBody (inClass (topS 38) 5)) (defScope (inClass (topS 38) 5)) [.int 1] [] f fd
section
variable {P : Program} {w : World} {K : PySem.W.Frag} {mg : Str → Option Value} {base : Heap} {CR C CB : Addr} {k d : Nat}
theorem binds_tp {f : Addr} {fd : FuncData} (F : FunTP K f fd) : Binds K fd ["self", "level"] [] := by
  obtain ⟨ds, vd, bd⟩ := F.binds1 (ps := ["self", "level"]) 2 1 (by simp) rfl (fun T kV doc pm an cdv ct us its h1 h2 => match us, its, h1, h2 with | [_, _], [_], _, _ => ⟨_, rfl, rfl⟩)
  cases vd
  exact bd
theorem binds_tp1 {f : Addr} {fd : FuncData} (F : FunTP K f fd) : ∃ ds, Vals [.int 1] ds ∧ Binds K fd ["self", "level"] ds :=
  F.binds1 (ps := ["self", "level"]) 1 0 (by simp) rfl (fun T kV doc pm an cdv ct us its h1 h2 => match us, its, h1, h2 with | [_], [_], _, _ => ⟨_, rfl, rfl⟩)
theorem nm_str {z w : Str} (h : z ≠ w) : decide (V.str z = V.str w) = false := decide_eq_false fun e => h (by injection e)
theorem scTpr : FnScope ["self", "level", "word", "token"] ["self", "level"] (defScope (inClass (topS 38) 5)) := ⟨rfl, rfl, rfl, by decide +kernel, rfl, by decide +kernel, by decide +kernel⟩
theorem ok_tpr {fp fo fc fn fw : Addr} {fdp fdo fdc fdn fdw : FuncData} (nC : CR ≠ C) (F : FunTP K fp fdp) (Fo : Fun K "take_offer" "Reader.take_offer" (inClass (topS 38) 7) fo fdo) (Fc : Fun K "take_choice" "Reader.take_choice" (inClass (topS 38) 6) fc fdc) (Fn : Fun K "take_new" "Reader.take_new" (inClass (topS 38) 8) fn fdn) (Fw : Fun K "take_when" "Reader.take_when" (inClass (topS 38) 9) fw fdw)
    (mp : Meth K CR "take_process" fp) (mo : Meth K CR "take_offer" fo) (mc : Meth K CR "take_choice" fc) (mn : Meth K CR "take_new" fn) (mw : Meth K CR "take_when" fw) (bo : Binds K fdo ["self", "level"] []) (bc : Binds K fdc ["self", "level"] []) (bn : Binds K fdn ["self", "level"] []) (bw : Binds K fdw ["self", "level"] [])
    (T : RdT K mg CR) (TP : TerT K mg C CB) (S : StaT P w K mg base C CB 5) (M : RdM P w K mg base CR) (GO : CalX P w K mg base CX0 2 "operand_read" spOr) : ∀ d : Nat, FnOk P w K mg base CX0 (6 + 3 * d) fp fdp ["self", "level"] (spTP CR C d)
  | 0 => by
    refine F.ok scTpr (fun vs H Q E h => ?_) (fun cdv A outer s H vs Q E hr h => ?_)
    · obtain ⟨r, tl, toks, i, x, l, p, post, rfl, _⟩ := h
      rfl
    · obtain ⟨r, tl, toks, i, x, l, p, post, rfl, _, _, _, hd, _⟩ := h
      have := Pr.depth_pos p
      exact absurd hd (by omega)
  | d + 1 => by
    have ih := ok_tpr nC F Fo Fc Fn Fw mp mo mc mn mw bo bc bn bw T TP S M GO d
    have MP : MthX P w K mg base CR (6 + 3 * d) "take_process" ["self", "level"] (spTP CR C d) := ⟨_, _, mp, ih, binds_tp F⟩
    have MO : MthX P w K mg base CR (6 + 3 * d + 1) "take_offer" ["self", "level"] (spTO CR C d) := ⟨_, _, mo, ok_tof (by omega) nC Fo T S M MP, bo⟩
    have oc := ok_tc (by omega) nC Fc T S M MO
    have on := ok_tn (by omega) Fn T S M MP
    have ow := ok_tw (by omega) nC Fw T S M MP
    obtain ⟨ft, fdt, mt, okt, bt⟩ := M.tok
    obtain ⟨fr, fdr, mr, okr, br⟩ := M.req
    obtain ⟨fl, fdl, ml, okl, bl⟩ := M.lst
    have ek : 6 + 3 * (d + 1) = 6 + 3 * d + 1 + 1 + 1 := by omega
    rw [ek]
    refine F.ok (k := 6 + 3 * d + 1 + 1) scTpr (fun vs H Q E h => ?_) (fun cdv A outer s H vs Q E hr h => ?_)
    · obtain ⟨r, tl, toks, i, x, l, p, post, rfl, _⟩ := h
      rfl
    · obtain ⟨r, tl, toks, i, x, l, p, post, rfl, rd, ht, al, hd, l1, l2, hs, q⟩ := h
      refine ⟨_, pss_cons (ps_expr (pe_meth (E := E0) (pv 0) T.cl mr okr (hr.mono (by omega)) br .nil pass0 (pa_cons (pe_cmpR op_le (pv 1) (C8.pe_gc (by rfl) TP.depth) (nomark _)) pa_nil)))
        (pss_cons (ps_set (i := 2) scTpr.nd rfl (Or.inl rfl) (pe_meth0 (E := E0) (pv 0) T.cl mt okt (hr.mono (by omega)) bt .nil pass0))
        (pss_cons (ps_if (pt_cmpR op_eq (pv 2) pe_str (nomark _)) (pss_one (ps_ret (pe_sx0 (E := fun _ => E0) S.stop hr (by omega) (pe_glob (v := .ref C) (by rfl) S.mgC rfl) (fun σ => passesAt_of passL σ)))) pss_nil)
        (pss_cons (ps_if (pt_cmpR op_eq (pv 2) pe_str (nomark _)) (pss_one (ps_ret (pe_meth (E := E0) (pv 0) T.cl mc oc hr bc .nil pass0 (pa_cons (pv 1) pa_nil)))) pss_nil)
        (pss_cons (ps_if (pt_cmpR op_eq (pv 2) pe_str (nomark _)) (pss_one (ps_ret (pe_meth (E := E0) (pv 0) T.cl mn on (hr.mono (by omega)) bn .nil pass0 (pa_cons (pv 1) pa_nil)))) pss_nil)
        (pss_cons (ps_if (pt_cmpR op_eq (pv 2) pe_str (nomark _)) (pss_one (ps_ret (pe_meth (E := E0) (pv 0) T.cl mw ow (hr.mono (by omega)) bw .nil pass0 (pa_cons (pv 1) pa_nil)))) pss_nil)
        (pss_one (ps_ret (pe_sx (E := fun _ => E0) S.call hr (by omega) (pe_glob (v := .ref C) (by rfl) S.mgC rfl) (fun σ => passesAt_of passL σ) (pa_cons (pv 2) (pa_cons
          (pe_lc (own := [("token", 3)]) (g := gName 3) (tt := tYes) (te := tCallS spOr (fun _ => E0) (tCons (tVar 3) tNil)) rfl scTpr.nd (pi_list (pe_meth0 (E := E0) (pv 0) T.cl ml okl (hr.mono (by omega)) bl .nil pass0)) (blkOk_by (own := [("token", 3)]) (N := ["self", "level", "word", "token"]) (sc := defScope (inClass (topS 38) 5)) (by decide +kernel))
            (fun _ _ _ _ _ => pg_name (i := 3) scTpr.nd rfl (Or.inl rfl)) (fun _ _ _ _ _ => pts_nil) (fun _ _ _ _ _ => pe_cx (E := fun _ => E0) GO hr (by omega) (by rfl) at0 (pa_cons (pv 3) pa_nil))) pa_nil)))))))))), ?_⟩
      have dp := Pr.depth_pos p
      obtain ⟨dx, h1, h2⟩ := id rd
      refine ⟨_, rfl, r, dx, _, rfl, h1, rd_no (by decide +kernel) (by decide +kernel) (by decide +kernel), _, rfl, _, _, rfl, rfl, r, by show [V.ref r, V.bl (decide (l ≤ 20))] = _; rw [decide_eq_true (show l ≤ 20 by omega)], fun H1 e1 => ?_⟩
      have rd1 := rd.ex e1
      have hd' : p.depth ≤ (d : Int) + 1 := by omega
      have wq : ∀ {z t : Str} {b : Bool} {H9 : Hp}, decide (V.str z = V.str t) = b → EvT (tTest (tOp rEq (tVar 2) (tC (.str t)))) [some (.ref r), some (.int l), some (.str z), none] H9 b := fun hb => et_is (et_test (ev_op (ev_var rfl) ev_c (rv_eq rfl))) hb
      have fin : ∀ {H2 : Hp} (e2 : ExA r H H2) (z : Str) (ts : List Str) (v : V) (H3 : Hp), RdAt CR H2 r tl toks (i + 1) x → tkP p ++ post = z :: ts → ExA r H2 H3 → (∃ c, v = .ref c ∧ H2 c = none ∧ RdAt CR H3 r tl toks (i + 1 + ((tkP p).length - 1)) x ∧ PrAt C H3 c p) → Q v H3 := fun {H2} e2 z ts v H3 rd2 hz e3 ⟨c, hv, hc, rd3, hp⟩ => by
        subst hv
        have hl1 : 1 ≤ (tkP p).length := List.length_pos_iff.mpr (tkP_ne p)
        exact q c H3 (rd.fresh e2 hc rd2.some) (e2.trans e3) (by rw [show i + (tkP p).length = i + 1 + ((tkP p).length - 1) by omega]; exact rd3) hp
      cases p with
      | choice os =>
        cases os with
        | nil =>
          have ht' : toks.drop i = ("stop" : Str) :: post := by rw [ht, tkP]; rfl
          obtain ⟨t0, d0⟩ := drop_at ht'
          refine q_asgM (em_word rfl rd1 t0) (fun v H2 e2 ⟨hv, rd2⟩ => ?_)
          subst hv
          refine q_when (b := true) (wq (decide_eq_true rfl)) (fun _ H3 e3 => ?_) (fun z => nomatch z)
          have e13 : ExA r H H3 := (ExA.of e1).trans (e2.trans (.of e3))
          refine ⟨rfl, rfl, fun _ c H4 hc e4 hp => ?_, fun f hf => nomatch hf⟩
          exact q c H4 (rd.fresh e13 hc (rd2.ex e3).some) (e13.trans (.of e4)) (by rw [tkP]; exact (rd2.ex e3).ex e4) hp
        | cons c s m op ns q9 os9 =>
          have hz := dk_ch (c := c) (s := s) (m := m) (op := op) (ns := ns) (q := q9) (os := os9) (post := post)
          obtain ⟨t0, d0⟩ := drop_at (ht.trans hz)
          refine q_asgM (em_word rfl rd1 t0) (fun v H2 e2 ⟨hv, rd2⟩ => ?_)
          subst hv
          refine q_when (b := false) (wq (by decide +kernel)) (fun z => nomatch z) (fun _ H3 e3 => ?_)
          refine q_when (b := true) (wq (decide_eq_true rfl)) (fun _ H4 e4 => ?_) (fun z => nomatch z)
          have e14 : ExA r H H4 := (ExA.of e1).trans (e2.trans (.of (e3.trans e4)))
          exact s_retM (em_t1 (rd_no (by decide +kernel) (by decide +kernel) (by decide +kernel)) rfl (ev_var rfl) (rd2.ex (e3.trans e4)) ⟨_, _, _, _, _, _, _, rfl⟩ hz d0 al hd' l1 l2 hs) (fun v H5 e5 hh => fin e14 _ _ v H5 (rd2.ex (e3.trans e4)) hz e5 hh)
      | new n kk q9 =>
        have hz := dk_new (n := n) (k := kk) (r := q9) (post := post)
        obtain ⟨t0, d0⟩ := drop_at (ht.trans hz)
        refine q_asgM (em_word rfl rd1 t0) (fun v H2 e2 ⟨hv, rd2⟩ => ?_)
        subst hv
        refine q_when (b := false) (wq (by decide +kernel)) (fun z => nomatch z) (fun _ H3 e3 => ?_)
        refine q_when (b := false) (wq (by decide +kernel)) (fun z => nomatch z) (fun _ H4 e4 => ?_)
        refine q_when (b := true) (wq (decide_eq_true rfl)) (fun _ H5 e5 => ?_) (fun z => nomatch z)
        have e15 : ExA r H H5 := (ExA.of e1).trans (e2.trans (.of ((e3.trans e4).trans e5)))
        exact s_retM (em_t1 (rd_no (by decide +kernel) (by decide +kernel) (by decide +kernel)) rfl (ev_var rfl) (rd2.ex ((e3.trans e4).trans e5)) ⟨_, _, _, rfl⟩ hz d0 al hd' l1 l2 hs) (fun v H6 e6 hh => fin e15 _ _ v H6 (rd2.ex ((e3.trans e4).trans e5)) hz e6 hh)
      | cond lo ro y n =>
        have hz := dk_cond (l := lo) (r := ro) (y := y) (n := n) (post := post)
        obtain ⟨t0, d0⟩ := drop_at (ht.trans hz)
        refine q_asgM (em_word rfl rd1 t0) (fun v H2 e2 ⟨hv, rd2⟩ => ?_)
        subst hv
        refine q_when (b := false) (wq (by decide +kernel)) (fun z => nomatch z) (fun _ H3 e3 => ?_)
        refine q_when (b := false) (wq (by decide +kernel)) (fun z => nomatch z) (fun _ H4 e4 => ?_)
        refine q_when (b := false) (wq (by decide +kernel)) (fun z => nomatch z) (fun _ H5 e5 => ?_)
        refine q_when (b := true) (wq (decide_eq_true rfl)) (fun _ H6 e6 => ?_) (fun z => nomatch z)
        have e16 : ExA r H H6 := (ExA.of e1).trans (e2.trans (.of (((e3.trans e4).trans e5).trans e6)))
        exact s_retM (em_t1 (rd_no (by decide +kernel) (by decide +kernel) (by decide +kernel)) rfl (ev_var rfl) (rd2.ex (((e3.trans e4).trans e5).trans e6)) ⟨_, _, _, _, rfl⟩ hz d0 al hd' l1 l2 hs) (fun v H7 e7 hh => fin e16 _ _ v H7 (rd2.ex (((e3.trans e4).trans e5).trans e6)) hz e7 hh)
      | call n ops =>
        have hz := dk_call (n := n) (ops := ops) (post := post)
        obtain ⟨t0, d0⟩ := drop_at (ht.trans hz)
        have al' := al
        unfold AlP at al'
        obtain ⟨w1, w4, w3⟩ := al'
        refine q_asgM (em_word rfl rd1 t0) (fun v H2 e2 ⟨hv, rd2⟩ => ?_)
        subst hv
        refine q_when (b := false) (wq (nm_str (nm_ne w1.nm (by decide +kernel)))) (fun z => nomatch z) (fun _ H3 e3 => ?_)
        refine q_when (b := false) (wq (nm_str (nm_ne w1.nm (by decide +kernel)))) (fun z => nomatch z) (fun _ H4 e4 => ?_)
        refine q_when (b := false) (wq (nm_str (nm_ne w1.nm (by decide +kernel)))) (fun z => nomatch z) (fun _ H5 e5 => ?_)
        refine q_when (b := false) (wq (nm_str (nm_ne w1.nm (by decide +kernel)))) (fun z => nomatch z) (fun _ H6 e6 => ?_)
        have rd6 := rd2.ex (((e3.trans e4).trans e5).trans e6)
        have e16 : ExA r H H6 := (ExA.of e1).trans (e2.trans (.of (((e3.trans e4).trans e5).trans e6)))
        have npar : (")" : Str) ∉ ops.map opS := fun hm => by
          obtain ⟨o, ho, e⟩ := List.mem_map.mp hm
          exact opS_ne (w3 o ho) e
        refine ⟨rfl, _, rfl, em_lst (σ := [some (.ref r), some (.int l), some (.str n), none]) rfl rd6 d0 npar (by rw [List.length_map]; omega) _ (fun v H7 e7 ⟨u, hv, hu, hul, rd7⟩ => ?_)⟩
        subst hv
        refine ⟨u, rfl, ⟨_, sq_of hul⟩, fun Dl hD => lc_list (xs := (ops.map opS).map V.str) (fun j H' => H' Dl = some (.lst ((ops.take j).map Opd.v)) ∧ Ex H7 H') ⟨by rw [List.take_zero]; exact upd_same, Ex.new hD⟩ (fun j H' _ ⟨_, he⟩ => sq_of (he _ _ hul)) (fun j xx H' hx ⟨g1, he⟩ => ?_) (fun H' ⟨g1, he⟩ => ?_)⟩
        · obtain ⟨o, ho, rfl⟩ : ∃ o, ops[j]? = some o ∧ xx = .str (opS o) := by
            rw [List.getElem?_map, List.getElem?_map] at hx
            cases hq : ops[j]? with
            | none => rw [hq] at hx; cases hx
            | some o =>
              rw [hq] at hx
              exact ⟨o, rfl, (Option.some.inj hx).symm⟩
          have oo := w3 o (List.mem_of_getElem? ho)
          have jl := (List.getElem?_eq_some_iff.mp ho).1
          refine ⟨rfl, _, rfl, opS o, rfl, by have := opS_len oo; omega, fun H8 e8 => ?_⟩
          rw [or_opd oo]
          refine ⟨_, e8 _ _ g1, sz_lt (by rw [List.length_map, List.length_take]; omega), ?_, Ex.mut (he.trans e8) hD⟩
          rw [List.take_add_one, ho, List.map_append]
          exact upd_same
        · rw [show ((ops.map opS).map V.str).length = ops.length by rw [List.length_map, List.length_map], List.take_length] at g1
          refine ⟨n, Dl, ops, rfl, by have := w1.len; omega, .inl g1, by omega, fun o ho => opdOk_ok (w3 o ho), fun _ c H8 hc e8 hp => ?_, fun f hf => by
            rw [bc_none w1 w4 w3] at hf
            cases hf⟩
          have e18 : ExA r H H8 := (e16.trans e7).trans (.of (he.trans e8))
          refine q c H8 (rd.fresh ((e16.trans e7).trans (.of he)) hc (rd7.ex he).some) e18 ?_ hp
          rw [tkP, show i + (([n] : List Str) ++ tkB (ops.map opS)).length = i + 1 + (ops.map opS).length + 2 by rw [List.length_append, tkB_len]; show i + (1 + _) = _; omega]
          exact rd7.ex (he.trans e8)
end
end Fs

set_option Elab.async false
set_option linter.all false
set_option maxRecDepth 100000
set_option maxHeartbeats 8000000
/-! a reader made, a process's text read -/
namespace Fs
open PySem L2 Evl FsE FsC FsR FsT FsK FsP
theorem join_same : ∀ (s : Str) (ts : List Str), Txt.join s ts = Str.join s ts := fun s ts => by
  first | rfl | exact TL.join_eq .. | simp [TL.join_eq]
/-- the tokens are had back -/
theorem split_tx {ts : List Str} (hne : ts ≠ []) (hf : Fr ts) : Txt.split (Str.join spS ts) spS = ts := by
  rw [← join_same]
  exact TL.split_join (y := spS) (s := 32) (S := []) (by decide +kernel) (by decide +kernel) hne hf
def spTk0 (CR : Addr) : Sp := fun vs H Q _ => ∃ (a dx : Addr) (line : Str), vs = [.ref a, .str line] ∧ H a = some (.ins CR dx []) ∧ line.length + 2 ≤ 100000 ∧ ∀ tl H', tl ≠ a → H tl = none → ExA a H H' → H' a = some (.ins CR dx [("tokens", .ref tl), ("taken", .int 0)]) → H' tl = some (.lst ((Txt.split line spS).map V.str)) → Q .non H'
def spRdI (CR : Addr) : Sp := fun vs H Q _ => ∃ (a dx : Addr) (line : Str) (x : V) (H0 : Hp), vs = [.ref a, .str line, x] ∧ H a = some (.ins CR dx []) ∧ H0 a = none ∧ Ex H0 H ∧ line.length + 2 ≤ 100000 ∧ ∀ tl H', Ex H0 H' → RdAt CR H' a tl (Txt.split line spS) 0 x → Q .non H'
theorem ExA.ex {a : Addr} {H H' : Hp} (h : H a = none) (e : ExA a H H') : Ex H H' := fun c o hc => e c o (fun z => by rw [z, h] at hc; cases hc) hc
section
variable {P : Program} {w : World} {K : PySem.W.Frag} {mg : Str → Option Value} {base : Heap} {CR C CB CT : Addr} {k d : Nat}
theorem put_tokens {v : V} : putF ("tokens" : Str) v [] = [(("tokens" : Str), v)] := rfl
theorem put_taken {v u : V} : putF ("taken" : Str) v [(("tokens" : Str), u)] = [(("tokens" : Str), u), (("taken" : Str), v)] := by
  have h1 : ¬ ("tokens" : Str) = "taken" := by decide +kernel
  show (if ("tokens" : Str) = "taken" then _ else (("tokens" : Str), u) :: [(("taken" : Str), v)]) = _
  rw [if_neg h1]
theorem put_number {v u z : V} : putF ("number" : Str) v [(("tokens" : Str), u), (("taken" : Str), z)] = [(("tokens" : Str), u), (("taken" : Str), z), (("number" : Str), v)] := by
  have h1 : ¬ ("tokens" : Str) = "number" := by decide +kernel
  have h2 : ¬ ("taken" : Str) = "number" := by decide +kernel
  show (if ("tokens" : Str) = "number" then _ else (("tokens" : Str), u) :: (if ("taken" : Str) = "number" then _ else (("taken" : Str), z) :: [(("number" : Str), v)])) = _
  rw [if_neg h1, if_neg h2]
theorem scTk0 : FnScope ["self", "line"] ["self", "line"] (defScope (inClass (topS 36) 0)) := ⟨rfl, rfl, rfl, by decide +kernel, rfl, by decide +kernel, by decide +kernel⟩
theorem ok_tk0 {f : Addr} {fd : FuncData} (F : Fun K "__init__" "Tokens.__init__" (inClass (topS 36) 0) f fd) (T : RdT K mg CR) : FnOk P w K mg base CX0 1 f fd ["self", "line"] (spTk0 CR) := by
  refine F.ok scTk0 (fun vs H Q E h => ?_) (fun cdv A outer s H vs Q E hr h => ?_)
  · obtain ⟨a, dx, line, rfl, _⟩ := h
    rfl
  · obtain ⟨a, dx, line, rfl, ha, hl, q⟩ := h
    refine ⟨_, pss_cons (ps_fld (pv 0) (pe_split (pv 1) pe_str) rfl) (pss_one (ps_fld (pv 0) pe_int rfl)), ?_⟩
    refine ⟨_, rfl, ⟨line, rfl⟩, line, spS, rfl, rfl, by decide +kernel, sz_of (by omega), fun tl htl => ?_⟩
    have ntl : tl ≠ a := fun z => by rw [z, ha] at htl; cases htl
    refine ⟨_, rfl, a, CR, dx, _, rfl, (Ex.new htl) _ _ ha, T.cl, T.nT, by show 0 < 1000; decide, ?_⟩
    rw [put_tokens]
    refine ⟨_, rfl, a, CR, dx, _, rfl, upd_same, T.cl, T.nK, by show 1 < 1000; decide, ?_⟩
    rw [put_taken]
    refine q tl _ ntl htl (fun c o hc h => ?_) upd_same ?_
    · rw [upd_ne hc, upd_ne hc]
      exact (Ex.new htl) _ _ h
    · rw [upd_ne ntl, upd_ne ntl]
      exact upd_same
theorem scRdI : FnScope ["self", "line", "number"] ["self", "line", "number"] (defScope (inClass (topS 38) 0)) := ⟨rfl, rfl, rfl, by decide +kernel, rfl, by decide +kernel, by decide +kernel⟩
theorem ok_rdi {f g : Addr} {fd gd : FuncData} {mc : Value} (F : Fun K "__init__" "Reader.__init__" (inClass (topS 38) 0) f fd) (T : RdT K mg CR) (gT : mg "Tokens" = some (.ref CT)) (r : ClX.CRead K CT mc) (c : FMet K CT mc "__init__" g) (G : FnOk P w K mg base CX0 1 g gd ["self", "line"] (spTk0 CR)) (b : Binds K gd ["self", "line"] []) : FnOk P w K mg base CX0 2 f fd ["self", "line", "number"] (spRdI CR) := by
  refine F.ok (k := 1) scRdI (fun vs H Q E h => ?_) (fun cdv A outer s H vs Q E hr h => ?_)
  · obtain ⟨a, dx, line, x, H0, rfl, _⟩ := h
    rfl
  · obtain ⟨a, dx, line, x, H0, rfl, ha, h0, e0, hl, q⟩ := h
    refine ⟨_, pss_cons (ps_expr (pe_clsf (E := fun _ => E0) (pe_glob (v := .ref CT) (by rfl) gT rfl) r c G hr b (fun σ => at0 (E := fun _ => E0) σ) (pa_cons (pv 0) (pa_cons (pv 1) pa_nil)))) (pss_one (ps_fld (pv 0) (pv 2) rfl)), ?_⟩
    refine ⟨rfl, _, rfl, _, rfl, a, dx, line, rfl, ha, hl, fun tl H1 ntl htl e1 ha1 hl1 => ?_⟩
    refine ⟨_, rfl, _, rfl, a, CR, dx, _, rfl, ha1, T.cl, T.nN, by show 2 < 1000; decide, ?_⟩
    rw [put_number]
    refine q tl _ (fun c o hc => ?_) ⟨dx, upd_same, ?_⟩
    · have hca : c ≠ a := fun z => by rw [z, h0] at hc; cases hc
      rw [upd_ne hca]
      exact e1 c o hca (e0 _ _ hc)
    · rw [upd_ne ntl]
      exact hl1
def spPRd (C : Addr) (d : Nat) : Sp := fun vs H Q _ => ∃ p : Pr, vs = [.str (txP p)] ∧ AlP p ∧ p.depth ≤ (d : Int) ∧ p.depth ≤ 20 ∧ p.size ≤ 100 ∧ ∀ c H', H c = none → Ex H H' → PrAt C H' c p → Q (.ref c) H'
theorem scPRd : FnScope ["text", "reader", "process"] ["text"] (defScope (topS 46)) := ⟨rfl, rfl, rfl, by decide +kernel, rfl, by decide +kernel, by decide +kernel⟩
theorem ok_prd {f fp : Addr} {fd fdp : FuncData} (hk : 3 ≤ k) (F : Fun K "process_read" "process_read" (topS 46) f fd) (gB : mg "BadTerm" = some (.ref CB)) (T : RdT K mg CR) (nC : CR ≠ C) (MR : MakX P w K mg base CX0 2 "Reader" CR (spRdI CR)) (mp : Meth K CR "take_process" fp) (okp : FnOk P w K mg base CX0 k fp fdp ["self", "level"] (spTP CR C d)) (Fp : FunTP K fp fdp)
    (MF : MthX P w K mg base CR 2 "finish" ["self"] (spFin CR)) : FnOk P w K mg base CX0 (k + 1) f fd ["text"] (spPRd C d) := by
  obtain ⟨ff, fdf, mf, okf, bf⟩ := MF
  obtain ⟨ds, vd, bp⟩ := binds_tp1 Fp
  refine F.ok scPRd (fun vs H Q E h => ?_) (fun cdv A outer s H vs Q E hr h => ?_)
  · obtain ⟨p, rfl, _⟩ := h
    rfl
  · obtain ⟨p, rfl, al, hd, h20, hs, q⟩ := h
    refine ⟨_, pss_cons (ps_set (i := 1) scPRd.nd rfl (Or.inl rfl) (pe_mx (E := E0) MR hr (by omega) (by rfl) pass0 (pa_cons (pv 0) (pa_cons pe_int pa_nil))))
      (pss_cons (ps_try_only rfl rfl ⟨rfl, by decide, .inl gB⟩ takes0 (fun W pn xe tk _ => pss_one (ps_set (i := 2) scPRd.nd rfl (Or.inl rfl) (pe_meth0 (dvs := [.int 1]) (E := E0) (pv 1) T.cl mp okp hr bp vd pass0))) (fun a oe cls d pn _ _ => L2.pss_never))
      (pss_cons (ps_expr (pe_meth0 (E := E0) (pv 1) T.cl mf okf (hr.mono (by omega)) bf .nil pass0)) (pss_one (ps_ret (pv 2))))), ?_⟩
    have htl := tx_len al
    have hsp : Txt.split (txP p) spS = tkP p := split_tx (tkP_ne p) (fr_P p al)
    refine ⟨_, rfl, fun r dx hr0 hdx hne => ?_⟩
    refine ⟨r, dx, txP p, .int 1, H, rfl, upd_same, hr0, Ex.mut (Ex.new hdx) hr0, by omega, fun tl H1 e1 rd1 => ⟨rfl, ?_⟩⟩
    rw [hsp] at rd1
    obtain ⟨dx1, g1, g2⟩ := id rd1
    refine ⟨_, rfl, r, dx1, _, rfl, g1, rd_no (by decide +kernel) (by decide +kernel) (by decide +kernel), r, tl, _, 0, .int 1, 1, p, [], rfl, rd1, (List.append_nil _).symm, al, hd, Int.le_refl _, by omega, by omega, fun c H2 hc e2 rd2 hp => ?_⟩
    obtain ⟨dx2, g3, g4⟩ := id rd2
    have eE : ExA r H H2 := (ExA.of e1).trans e2
    have hcH : H c = none := fresh_back e1 hc
    refine ⟨_, rfl, r, dx2, _, rfl, g3, rd_no (by decide +kernel) (by decide +kernel) (by decide +kernel), r, tl, _, _, .int 1, rfl, rd2, by rw [Nat.zero_add], fun H3 e3 => ⟨_, rfl, ?_⟩⟩
    exact q c H3 hcH ((eE.ex hr0).trans e3) (hp.ex e3)
end
end Fs

set_option Elab.async false
set_option linter.all false
set_option maxRecDepth 100000
set_option maxHeartbeats 8000000
/-! the law's look at two rows of values -/
namespace Fs
open PySem L2 Evl FsE FsC FsR FsT FsK FsP
/-- a name or a number, the same -/
def Lk0 (u v : V) : Prop := u = v ∧ ((∃ i, u = .int i) ∨ ∃ z, u = .str z)
def SqE (H : Hp) (l : Addr) (vs : List V) : Prop := H l = some (.lst vs) ∨ H l = some (.tup vs)
/-- alike, so many tuples deep -/
def Lk : Nat → Hp → V → V → Prop
  | 0, _, u, v => Lk0 u v
  | n + 1, H, u, v => Lk0 u v ∨ ∃ (t l : Addr) (us vs : List V), u = .ref t ∧ v = .ref l ∧ H t = some (.tup us) ∧ SqE H l vs ∧ us.length = vs.length ∧ us.length ≤ 100 ∧ ∀ (i : Nat) (a b : V), us[i]? = some a → vs[i]? = some b → Lk n H a b
theorem Lk.ex {H H' : Hp} (e : Ex H H') : ∀ {n : Nat} {u v : V}, Lk n H u v → Lk n H' u v
  | 0, _, _, h => h
  | n + 1, u, v, h => by
    rcases h with h | ⟨t, l, us, vs, h1, h2, h3, h4, h5, h6, h7⟩
    · exact .inl h
    · exact .inr ⟨t, l, us, vs, h1, h2, e _ _ h3, h4.elim (fun z => .inl (e _ _ z)) (fun z => .inr (e _ _ z)), h5, h6, fun i u v a b => Lk.ex e (h7 i u v a b)⟩
theorem lk_flat {n : Nat} {H : Hp} {u v : V} (h : Lk0 u v) : Lk n H u v := by
  cases n with
  | zero => exact h
  | succ n => exact .inl h
theorem lk_str {n : Nat} {H : Hp} {z : Str} : Lk n H (.str z) (.str z) := lk_flat ⟨rfl, .inr ⟨z, rfl⟩⟩
theorem lk_int {n : Nat} {H : Hp} {i : Int} : Lk n H (.int i) (.int i) := lk_flat ⟨rfl, .inl ⟨i, rfl⟩⟩
theorem lk_opd {n : Nat} {H : Hp} {o : Opd} : Lk n H o.v o.v := by
  cases o with
  | int i => exact lk_int
  | nm z => exact lk_str
/-- rows of flat values -/
theorem lk_row {n : Nat} {H : Hp} {t l : Addr} {us : List V} (h1 : H t = some (.tup us)) (h2 : SqE H l us) (hl : us.length ≤ 100) (hf : ∀ u ∈ us, Lk n H u u) : Lk (n + 1) H (.ref t) (.ref l) := .inr ⟨t, l, us, us, rfl, rfl, h1, h2, rfl, hl, fun i u v a b => by
  rw [a] at b
  cases b
  exact hf u (List.mem_of_getElem? a)⟩
def spLk (n : Nat) : Sp := fun vs H Q _ => ∃ u v, vs = [u, v] ∧ Lk n H u v ∧ RetV (.bl true) H Q
theorem ev_notB {σ : L2.St} {H : Hp} {te : TE} {b : Bool} (h : Ev te σ H (.bl b)) : Ev (tNotV te) σ H (.bl (!b)) := fun H1 e Q q => h H1 e _ fun H2 e2 => ⟨b, rfl, q H2 e2⟩
section
variable {P : Program} {w : World} {K : PySem.W.Frag} {mg : Str → Option Value} {base : Heap} {C CB : Addr}
theorem ev_isiLT {ta : TE} {σ : L2.St} {H : Hp} {x : V} {t : String} {b1 b2 : Bool} (hx : Ev ta σ H x) (ht : ∀ H1, Ex H H1 → TyX K H1 x (.type t)) (h1 : kitB t "list" = some b1) (h2 : kitB t "tuple" = some b2) :
    Ev (tCB (rIsiT K) (tCons ta (tCons (tTup (tCons (tC (.ty "list")) (tCons (tC (.ty "tuple")) tNil))) tNil))) σ H (.bl (b1 || b2)) := fun H1 e Q q =>
  hx H1 e _ fun H2 e2 => eu_tup (vs := [.ty "list", .ty "tuple"]) (H := H2) (σ := σ) (ea_cons ev_c (ea_cons ev_c ea_nil)) (by show 2 ≤ 100000; decide) H2 (Ex.refl H2) _ fun p H3 _ e3 h3 =>
    ⟨x, p, _, .type t, [.type "list", .type "tuple"], b1 || b2, rfl, h3, .cons (.ty "list") (.cons (.ty "tuple") .nil), ht H3 ((e.trans e2).trans e3), by
      refine kitAny_cons (kit_ty h1) (fun hb => ?_) (fun hb => by rw [hb]; rfl)
      rw [hb]
      refine kitAny_cons (b := b2) (kit_ty h2) (fun hb2 => by rw [hb2]; exact kitAny_nil) (fun hb2 => by rw [hb2]; rfl), q H3 (e2.trans e3)⟩
theorem scLk : FnScope ["_law_found", "_law_due", "_law_k"] ["_law_found", "_law_due"] (defScope (topS 56)) := ⟨rfl, rfl, rfl, by decide +kernel, rfl, by decide +kernel, by decide +kernel⟩
theorem ev_lenS {σ : L2.St} {H : Hp} {te : TE} {l : Addr} {vs : List V} (h : Ev te σ H (.ref l)) (hl : SqE H l vs) : Ev (tCB (fun xs H Q => ∃ p ys, xs = [V.ref p] ∧ (SqL K H p ys ∨ SqT K H p ys) ∧ Q (.int ys.length) H) (tCons te tNil)) σ H (.int (vs.length : Int)) :=
  ev_cb (ea_cons h ea_nil) (fun H5 e5 Q5 q5 => ⟨l, _, rfl, hl.elim (fun z => .inl (sq_of (e5 _ _ z))) (fun z => .inr (st_of (e5 _ _ z))), q5 H5 (Ex.refl H5)⟩)
theorem tyx_seq {H : Hp} {l : Addr} {vs : List V} (hl : SqE H l vs) : ∃ t : String, (∀ H1, Ex H H1 → TyX K H1 (.ref l) (.type t)) ∧ ∃ b1 b2, kitB t "list" = some b1 ∧ kitB t "tuple" = some b2 ∧ (b1 || b2) = true := by
  rcases hl with h | h
  · exact ⟨"list", fun H1 e => .base (.lst (e _ _ h)), true, false, by decide +kernel, by decide +kernel, rfl⟩
  · exact ⟨"tuple", fun H1 e => .base (.tup (e _ _ h)), false, true, by decide +kernel, by decide +kernel, rfl⟩
theorem tyx_flat {H : Hp} {v : V} (h : (∃ i, v = V.int i) ∨ ∃ z, v = V.str z) : ∃ t : String, (∀ H1, Ex H H1 → TyX K H1 v (.type t)) ∧ kitB t "list" = some false ∧ kitB t "tuple" = some false ∧ kitB t "bool" = some false ∧ ∃ b, kitB t "str" = some b := by
  rcases h with ⟨i, rfl⟩ | ⟨z, rfl⟩
  · exact ⟨"int", fun H1 e => .base (.int i), by decide +kernel, by decide +kernel, by decide +kernel, false, by decide +kernel⟩
  · exact ⟨"str", fun H1 e => .base (.str z), by decide +kernel, by decide +kernel, by decide +kernel, true, by decide +kernel⟩
theorem ok_lk {f : Addr} {fd : FuncData} (F : Fun K "_law_like" "_law_like" (topS 56) f fd) (L : LawT K mg) (B : BasT K mg) (hlist : mg "list" = none) (htuple : mg "tuple" = none) (hm : mg "_law_like" = some (.ref f)) (kp : PySem.W.keepIn K (.ref f) = true) (bd : Binds K fd ["_law_found", "_law_due"] []) : ∀ n : Nat, FnOk P w K mg base CX0 (1 + n) f fd ["_law_found", "_law_due"] (spLk n) := by
  -- the flat way
  have flat : ∀ (k : Nat) (cdv : Value) (A : Around) (outer : List Env) (s : Shared) (H : Hp) (u v : V) (Q : VK) (E : XK), Room k (A.deeper (PyProof.Rows.envOfC "_law_like" (defScope (topS 56)) s.heap.objs.size f cdv)) → Lk0 u v → RetV (.bl true) H Q → ∃ t, PSs (cxOf CX0 P w K mg base ["_law_found", "_law_due", "_law_k"] "_law_like" (defScope (topS 56)) f cdv A outer s H E).nox (defBody (topS 56)) t ∧ t { nx := fun _ H' => Q .non H', rt := Q, bk := fun _ _ => False, ct := fun _ _ => False } [some u, some v, none] H := fun k cdv A outer s H u v Q E hr h q => by
    obtain ⟨rfl, hf⟩ := h
    refine ⟨_, pss_cons (ps_if (pt_val (pe_callB (id := "isinstance") (r := rIsiT K) call_isiT (by rfl) B.isinst (by decide +kernel) (pa_cons (pv 1) (pa_cons (pe_tup (pa_cons (pe_bltn (v := .ty "list") (by rfl) hlist (by decide +kernel) rfl) (pa_cons (pe_bltn (v := .ty "tuple") (by rfl) htuple (by decide +kernel) rfl) pa_nil))) pa_nil)))) L2.pss_never pss_nil)
      (pss_one (ps_ret (pe_and (pe_cmpR op_eq (pe_callB (id := "isinstance") (r := rIsi K) call_isi (by rfl) B.isinst (by decide +kernel) (pa_cons (pv 0) (pa_cons (pe_bltn (v := .ty "str") (by rfl) B.str (by decide +kernel) rfl) pa_nil))) (pe_callB (id := "isinstance") (r := rIsi K) call_isi (by rfl) B.isinst (by decide +kernel) (pa_cons (pv 1) (pa_cons (pe_bltn (v := .ty "str") (by rfl) B.str (by decide +kernel) rfl) pa_nil))) (nomark _))
        (pe_and (pe_not (pe_callB (id := "isinstance") (r := rIsi K) call_isi (by rfl) B.isinst (by decide +kernel) (pa_cons (pv 0) (pa_cons (pe_bltn (v := .ty "bool") (by rfl) B.bool (by decide +kernel) rfl) pa_nil)))) (pe_one (pe_cmpR op_eq (pv 0) (pv 1) (nomark _))))))), ?_⟩
    obtain ⟨t, ht, k1, k2, k3, b, k4⟩ := tyx_flat (K := K) (H := H) hf
    refine q_when (b := false) (et_is (et_B (ev_isiLT (K := K) (ev_var rfl) ht k1 k2)) rfl) (fun z => nomatch z) (fun _ H1 e1 => ?_)
    have ht1 : ∀ H2, Ex H1 H2 → TyX K H2 u (.type t) := fun H2 e2 => ht H2 (e1.trans e2)
    refine s_ret (v := .bl true) (ev_is (ev_andV (a := true) (b := true) (ev_is (ev_op (x := .bl b) (y := .bl b) (ev_cb (ea_cons (ev_var rfl) (ea_cons ev_c ea_nil)) (rc_isi ht1 k4)) (ev_cb (ea_cons (ev_var rfl) (ea_cons ev_c ea_nil)) (rc_isi ht1 k4)) (rv_eq rfl)) (by rw [decide_eq_true rfl]))
      (fun _ => ev_is (ev_andV (a := true) (b := true) (ev_is (ev_notB (ev_cb (ea_cons (ev_var rfl) (ea_cons ev_c ea_nil)) (rc_isi ht1 k3))) rfl) (fun _ => ev_is (ev_op (x := u) (y := u) (ev_var rfl) (ev_var rfl) (rv_eq (by rcases hf with ⟨i, rfl⟩ | ⟨z, rfl⟩ <;> rfl))) (by rw [decide_eq_true rfl]))) rfl)) rfl) (fun H2 e2 => q H2 (e1.trans e2))
  intro n
  induction n with
  | zero =>
    refine F.ok scLk (fun vs H Q E h => ?_) (fun cdv A outer s H vs Q E hr h => ?_)
    · obtain ⟨u, v, rfl, _⟩ := h
      rfl
    · obtain ⟨u, v, rfl, h0, q⟩ := h
      exact flat _ cdv A outer s H u v Q E hr h0 q
  | succ n ih =>
    have GL : CalX P w K mg base CX0 (1 + n) "_law_like" (spLk n) := ⟨f, fd, _, ih, hm, kp, bd⟩
    refine F.ok (k := 1 + n) scLk (fun vs H Q E h => ?_) (fun cdv A outer s H vs Q E hr h => ?_)
    · obtain ⟨u, v, rfl, _⟩ := h
      rfl
    · obtain ⟨u, v, rfl, h0, q⟩ := h
      rcases h0 with h0 | ⟨t, l, us, ws, rfl, rfl, h3, h4, h5, h6, h7⟩
      · exact flat _ cdv A outer s H u v Q E hr h0 q
      have item : ∀ {te : TE}, (∀ (i : Nat) (H1 : Hp), Ex H H1 → i < us.length → ∀ v, ws[i]? = some v → Ev te [some (.ref t), some (.ref l), some (.int (i : Int))] H1 v) → ∀ (i : Nat) (H1 : Hp), Ex H H1 → (i : Int) < (ws.length : Int) → Ev (tCallS (spLk n) (fun _ => E0) (tCons (tOp (rIxT K) (tVar 0) (tVar 2)) (tCons te tNil))) [some (.ref t), some (.ref l), some (.int (i : Int))] H1 (.bl true) := fun {te} hte i H1 e1 hi => by
        have hiu : i < us.length := by omega
        have hiv : i < ws.length := by omega
        have gu : us[i]? = some us[i] := List.getElem?_eq_getElem hiu
        have gv : ws[i]? = some ws[i] := List.getElem?_eq_getElem hiv
        exact ev_cx (ea_cons (ev_op (ev_var rfl) (ev_var rfl) (rv_ixT (st_of (e1 _ _ h3)) (atI_nat gu))) (ea_cons (hte i H1 e1 hiu _ gv) ea_nil)) (fun H2 e2 Q2 q2 E2 => ⟨_, _, rfl, (h7 i _ _ gu gv).ex (e1.trans e2), q2⟩)
      have fin : ∀ {te : TE} {D : Ends} (H1 : Hp), Ex H H1 → (∀ (i : Nat) (H1 : Hp), Ex H H1 → i < us.length → ∀ v, ws[i]? = some v → Ev te [some (.ref t), some (.ref l), some (.int (i : Int))] H1 v) → (∀ H2, Ex H H2 → D.rt (.bl true) H2) → tRet (tCB (rAll K) (tCons (tLc (iRng1 (tCons (tCB (fun xs H Q => ∃ p ys, xs = [V.ref p] ∧ (SqL K H p ys ∨ SqT K H p ys) ∧ Q (.int ys.length) H) (tCons (tVar 1) tNil)) tNil)) (gName 2) tYes (tCallS (spLk n) (fun _ => E0) (tCons (tOp (rIxT K) (tVar 0) (tVar 2)) (tCons te tNil))) [2]) tNil)) D [some (.ref t), some (.ref l), none] H1 := fun {te D} H1 e1 hte hq => by
        have hs : SqE H1 l ws := h4.elim (fun z => .inl (e1 _ _ z)) (fun z => .inr (e1 _ _ z))
        refine s_ret (v := .bl true) (ev_is (ev_all (bs := (List.range ((ws.length : Int)).toNat).map fun _ => true) (by
          rw [List.map_map]
          exact el_lcRm (V.bl ∘ fun _ => true) (ea_cons (ev_lenS (K := K) (ev_var rfl) hs) ea_nil) (by omega) (fun _ => rfl) (fun i H2 e2 hi => item hte i H2 (e1.trans e2) hi))) ?_) (fun H2 e2 => hq H2 (e1.trans e2))
        refine congrArg V.bl (List.all_eq_true.mpr fun b hb => ?_)
        obtain ⟨_, _, rfl⟩ := List.mem_map.mp hb
        rfl
      have hlen : ((us.length : Int)) = (ws.length : Int) := by omega
      obtain ⟨ty, hty, b1, b2, kb1, kb2, kb⟩ := tyx_seq (K := K) h4
      rcases h4 with hl4 | hl4
      · refine ⟨_, pss_cons (ps_if (pt_val (pe_callB (id := "isinstance") (r := rIsiT K) call_isiT (by rfl) B.isinst (by decide +kernel) (pa_cons (pv 1) (pa_cons (pe_tup (pa_cons (pe_bltn (v := .ty "list") (by rfl) hlist (by decide +kernel) rfl) (pa_cons (pe_bltn (v := .ty "tuple") (by rfl) htuple (by decide +kernel) rfl) pa_nil))) pa_nil))))
          (pss_cons (ps_if (PW.pt (pw_or (pt_not (pt_val (pe_callB (id := "isinstance") (r := rIsi K) call_isi (by rfl) B.isinst (by decide +kernel) (pa_cons (pv 0) (pa_cons (pe_bltn (v := .ty "tuple") (by rfl) htuple (by decide +kernel) rfl) pa_nil))))) (pw_or1 (pt_cmpR op_ne (pe_callB call_len_seq (by rfl) L.len PySem.boot_len (pa_cons (pv 0) pa_nil)) (pe_callB call_len_seq (by rfl) L.len PySem.boot_len (pa_cons (pv 1) pa_nil)) (nomark _))))) (pss_one (ps_ret pe_bl)) pss_nil)
            (pss_one (ps_ret (pe_callB (cr_all rfl) (by rfl) B.all (by decide +kernel) (pa_cons (pe_lc (own := [("_law_k", 2)]) (g := gName 2) (tt := tYes) (te := tCallS (spLk n) (fun _ => E0) (tCons (tOp (rIxT K) (tVar 0) (tVar 2)) (tCons (tOp (rIxL K) (tVar 1) (tVar 2)) tNil))) rfl scLk.nd
              (pi_range1 rfl L.range (pa_cons (pe_callB call_len_seq (by rfl) L.len PySem.boot_len (pa_cons (pv 1) pa_nil)) pa_nil)) (blkOk_by (own := [("_law_k", 2)]) (N := ["_law_found", "_law_due", "_law_k"]) (sc := defScope (topS 56)) (by decide +kernel))
              (fun _ _ _ _ _ => pg_name (i := 2) scLk.nd rfl (Or.inl rfl)) (fun _ _ _ _ _ => pts_nil) (fun _ _ _ _ _ => pe_cx (E := fun _ => E0) GL hr (Nat.le_refl _) (by rfl) at0 (pa_cons (pe_ix ix_tup (pv 0) (pv 2) (fun _ _ => rfl)) (pa_cons (pe_ix ix_list (pv 1) (pv 2) (fun _ _ => rfl)) pa_nil)))) pa_nil))))) pss_nil) L2.pss_never, ?_⟩
        refine q_when (b := true) (et_is (et_B (ev_isiLT (K := K) (ev_var rfl) hty kb1 kb2)) kb) (fun _ H1 e1 => ?_) (fun z => nomatch z)
        refine q_when (b := false) (et_is (et_or (a := false) (b := false) (et_is (et_not (et_B (ev_cb (ea_cons (ev_var rfl) (ea_cons ev_c ea_nil)) (rc_isi (t := "tuple") (b := true) (fun H2 e2 => .base (.tup ((e1.trans e2) _ _ h3))) (by decide +kernel))))) rfl)
          (fun _ => et_is (et_test (ev_op (x := .int (us.length : Int)) (y := .int (ws.length : Int)) (ev_lenS (K := K) (ev_var rfl) (.inr (e1 _ _ h3))) (ev_lenS (K := K) (ev_var rfl) (.inl (e1 _ _ hl4))) (rv_ne rfl))) (by rw [hlen, decide_eq_true rfl]; rfl))) rfl) (fun z => nomatch z) (fun _ H2 e2 => ?_)
        exact fin H2 (e1.trans e2) (fun i H3 e3 hi v hv => ev_op (ev_var rfl) (ev_var rfl) (rv_ixL (sq_of (e3 _ _ hl4)) (atI_nat hv))) (fun H3 e3 => q H3 e3)
      · refine ⟨_, pss_cons (ps_if (pt_val (pe_callB (id := "isinstance") (r := rIsiT K) call_isiT (by rfl) B.isinst (by decide +kernel) (pa_cons (pv 1) (pa_cons (pe_tup (pa_cons (pe_bltn (v := .ty "list") (by rfl) hlist (by decide +kernel) rfl) (pa_cons (pe_bltn (v := .ty "tuple") (by rfl) htuple (by decide +kernel) rfl) pa_nil))) pa_nil))))
          (pss_cons (ps_if (PW.pt (pw_or (pt_not (pt_val (pe_callB (id := "isinstance") (r := rIsi K) call_isi (by rfl) B.isinst (by decide +kernel) (pa_cons (pv 0) (pa_cons (pe_bltn (v := .ty "tuple") (by rfl) htuple (by decide +kernel) rfl) pa_nil))))) (pw_or1 (pt_cmpR op_ne (pe_callB call_len_seq (by rfl) L.len PySem.boot_len (pa_cons (pv 0) pa_nil)) (pe_callB call_len_seq (by rfl) L.len PySem.boot_len (pa_cons (pv 1) pa_nil)) (nomark _))))) (pss_one (ps_ret pe_bl)) pss_nil)
            (pss_one (ps_ret (pe_callB (cr_all rfl) (by rfl) B.all (by decide +kernel) (pa_cons (pe_lc (own := [("_law_k", 2)]) (g := gName 2) (tt := tYes) (te := tCallS (spLk n) (fun _ => E0) (tCons (tOp (rIxT K) (tVar 0) (tVar 2)) (tCons (tOp (rIxT K) (tVar 1) (tVar 2)) tNil))) rfl scLk.nd
              (pi_range1 rfl L.range (pa_cons (pe_callB call_len_seq (by rfl) L.len PySem.boot_len (pa_cons (pv 1) pa_nil)) pa_nil)) (blkOk_by (own := [("_law_k", 2)]) (N := ["_law_found", "_law_due", "_law_k"]) (sc := defScope (topS 56)) (by decide +kernel))
              (fun _ _ _ _ _ => pg_name (i := 2) scLk.nd rfl (Or.inl rfl)) (fun _ _ _ _ _ => pts_nil) (fun _ _ _ _ _ => pe_cx (E := fun _ => E0) GL hr (Nat.le_refl _) (by rfl) at0 (pa_cons (pe_ix ix_tup (pv 0) (pv 2) (fun _ _ => rfl)) (pa_cons (pe_ix ix_tup (pv 1) (pv 2) (fun _ _ => rfl)) pa_nil)))) pa_nil))))) pss_nil) L2.pss_never, ?_⟩
        refine q_when (b := true) (et_is (et_B (ev_isiLT (K := K) (ev_var rfl) hty kb1 kb2)) kb) (fun _ H1 e1 => ?_) (fun z => nomatch z)
        refine q_when (b := false) (et_is (et_or (a := false) (b := false) (et_is (et_not (et_B (ev_cb (ea_cons (ev_var rfl) (ea_cons ev_c ea_nil)) (rc_isi (t := "tuple") (b := true) (fun H2 e2 => .base (.tup ((e1.trans e2) _ _ h3))) (by decide +kernel))))) rfl)
          (fun _ => et_is (et_test (ev_op (x := .int (us.length : Int)) (y := .int (ws.length : Int)) (ev_lenS (K := K) (ev_var rfl) (.inr (e1 _ _ h3))) (ev_lenS (K := K) (ev_var rfl) (.inr (e1 _ _ hl4))) (rv_ne rfl))) (by rw [hlen, decide_eq_true rfl]; rfl))) rfl) (fun z => nomatch z) (fun _ H2 e2 => ?_)
        exact fin H2 (e1.trans e2) (fun i H3 e3 hi v hv => ev_op (ev_var rfl) (ev_var rfl) (rv_ixT (st_of (e3 _ _ hl4)) (atI_nat hv))) (fun H3 e3 => q H3 e3)
end
end Fs

set_option Elab.async false
set_option linter.all false
set_option maxRecDepth 100000
set_option maxHeartbeats 8000000
/-! the law's look at a process -/
namespace Fs
open PySem L2 Evl FsE FsC FsR FsT FsK FsP
def AllLk (n : Nat) (H : Hp) : List V → List V → Prop
  | [], [] => True
  | u :: us, v :: vs => Lk n H u v ∧ AllLk n H us vs
  | _, _ => False
theorem AllLk.at_ {n : Nat} {H : Hp} : ∀ {us vs : List V}, AllLk n H us vs → us.length = vs.length ∧ ∀ (i : Nat) (a b : V), us[i]? = some a → vs[i]? = some b → Lk n H a b
  | [], [], _ => ⟨rfl, fun i a b ha _ => by simp at ha⟩
  | u :: us, v :: vs, h => by
    obtain ⟨h1, h2⟩ := AllLk.at_ h.2
    refine ⟨by rw [List.length_cons, List.length_cons, h1], fun i a b ha hb => ?_⟩
    cases i with
    | zero =>
      cases ha
      cases hb
      exact h.1
    | succ i => exact h2 i a b ha hb
  | [], _ :: _, h => h.elim
  | _ :: _, [], h => h.elim
theorem lk_tup {n : Nat} {H : Hp} {t l : Addr} {us vs : List V} (h1 : H t = some (.tup us)) (h2 : SqE H l vs) (hl : us.length ≤ 100) (h : AllLk n H us vs) : Lk (n + 1) H (.ref t) (.ref l) := by
  obtain ⟨a, b⟩ := h.at_
  exact .inr ⟨t, l, us, vs, rfl, rfl, h1, h2, a, hl, b⟩
theorem lk_names {H : Hp} {t l : Addr} {ns : List Str} (h1 : H t = some (.tup (ns.map V.str))) (h2 : H l = some (.lst (ns.map V.str))) (hl : ns.length ≤ 100) : Lk 1 H (.ref t) (.ref l) :=
  lk_row h1 (.inl h2) (by rw [List.length_map]; exact hl) (fun u hu => by
    obtain ⟨z, _, rfl⟩ := List.mem_map.mp hu
    exact lk_str)
theorem lk_ops {H : Hp} {t l : Addr} {ops : List Opd} (h1 : H t = some (.tup (ops.map Opd.v))) (h2 : H l = some (.lst (ops.map Opd.v))) (hl : ops.length ≤ 100) : Lk 1 H (.ref t) (.ref l) :=
  lk_row h1 (.inl h2) (by rw [List.length_map]; exact hl) (fun u hu => by
    obtain ⟨z, _, rfl⟩ := List.mem_map.mp hu
    exact lk_opd)
/-- an offer made, an offer drawn -/
def OfPair (C : Addr) (H : Hp) (d : Int) (x y : V) : Prop := ∃ (o u b o' u' b' : Addr) (c : Str) (s m : Int) (op : Opd) (ns : List Str) (r : Pr), x = .ref o ∧ y = .ref o' ∧ H o = some (.tup [.str c, .int s, .int m, op.v, .ref u, .ref b]) ∧ H u = some (.tup (ns.map V.str)) ∧ PrAt C H b r ∧
  H o' = some (.tup [.str c, .int s, .int m, op.v, .ref u', .ref b']) ∧ H u' = some (.lst (ns.map V.str)) ∧ TrAt H b' r ∧ r.depth ≤ d ∧ AlP r ∧ ns.length ≤ 3
theorem OfPair.ex {C : Addr} {H H' : Hp} {d : Int} {x y : V} (e : Ex H H') (h : OfPair C H d x y) : OfPair C H' d x y := by
  obtain ⟨o, u, b, o', u', b', c, s, m, op, ns, r, h1, h2, h3, h4, h5, h6, h7, h8, h9⟩ := h
  exact ⟨o, u, b, o', u', b', c, s, m, op, ns, r, h1, h2, e _ _ h3, e _ _ h4, h5.ex e, e _ _ h6, e _ _ h7, h8.ex e, h9⟩
theorem of_at {C : Addr} {H : Hp} {d : Int} : ∀ {os : Ofs} {xs ys : List V}, OfsAt C H xs os → OfsTr H ys os → AlO os → os.depth ≤ d → xs.length = os.len ∧ ys.length = os.len ∧ ∀ (j : Nat), j < os.len → ∃ x y, xs[j]? = some x ∧ ys[j]? = some y ∧ OfPair C H d x y
  | .nil, xs, ys, h, g, _, _ => by
    unfold OfsAt at h
    unfold OfsTr at g
    subst h g
    exact ⟨rfl, rfl, fun j hj => absurd hj (Nat.not_lt_zero j)⟩
  | .cons c s m op ns r os, xs, ys, h, g, al, hd => by
    unfold OfsAt at h
    unfold OfsTr at g
    unfold AlO at al
    rw [Ofs.depth] at hd
    obtain ⟨o, u, b, qs, rfl, h2, h3, h4, h5⟩ := h
    obtain ⟨o', u', b', qs', rfl, g2, g3, g4, g5⟩ := g
    obtain ⟨i1, i2, i3⟩ := of_at (d := d) h5 g5 al.2.2 (by omega)
    refine ⟨by rw [List.length_cons, i1]; rfl, by rw [List.length_cons, i2]; rfl, fun j hj => ?_⟩
    cases j with
    | zero => exact ⟨_, _, rfl, rfl, o, u, b, o', u', b', c, s, m, op, ns, r, rfl, rfl, h2, h3, h4, g2, g3, g4, by omega, al.2.1, ns_len al.1⟩
    | succ j => exact i3 j (by have : j + 1 < os.len + 1 := hj; omega)
def wdP : Pr → Int
  | .choice os => (os.len : Int)
  | .new _ _ _ => 3
  | .cond _ _ _ _ => 4
  | .call _ _ => 2
def spWd : Sp := fun vs H Q _ => ∃ (a : Addr) (p : Pr), vs = [.ref a] ∧ TrAt H a p ∧ RetV (.int (wdP p)) H Q
def spSO (C : Addr) (d : Nat) : Sp := fun vs H Q _ => ∃ x y, vs = [x, y] ∧ OfPair C H (d : Int) x y ∧ RetV (.bl true) H Q
def spSm (C : Addr) (d : Nat) : Sp := fun vs H Q _ => ∃ (c a : Addr) (p : Pr), vs = [.ref c, .ref a] ∧ PrAt C H c p ∧ TrAt H a p ∧ AlP p ∧ p.depth ≤ (d : Int) ∧ RetV (.bl true) H Q
section
variable {P : Program} {w : World} {K : PySem.W.Frag} {mg : Str → Option Value} {base : Heap} {C CB : Addr}
theorem eu_slT {σ : L2.St} {H : Hp} {te : TE} {tl th : TO} {a : Addr} {xs : List V} {lo hi : Option Int} (h : Ev te σ H (.ref a)) (h1 : EvO tl σ H lo) (h2 : EvO th σ H hi) (hs : H a = some (.tup xs)) (hw : ¬ (HT.sIx xs.length 0 lo = 0 ∧ HT.sIx xs.length xs.length hi = xs.length)) : EvU (tSl (rSlT K) te tl th) σ H (cutV xs lo hi) := fun H1 e _ q =>
  h H1 e _ fun H2 e2 => h1 H2 (e.trans e2) _ fun H3 e3 => h2 H3 ((e.trans e2).trans e3) _ fun H4 e4 =>
    ⟨a, xs, rfl, st_of ((((e.trans e2).trans e3).trans e4) _ _ hs), hw, fun p hp => q p _ (fresh_back ((e2.trans e3).trans e4) hp) (((e2.trans e3).trans e4).trans (Ex.new hp)) upd_same⟩
theorem ev_lk2 {n : Nat} {σ : L2.St} {H : Hp} {t1 t2 : TE} {E : L2.St → XK} {us ws : List V} (h1 : EvU t1 σ H us) (h2 : EvU t2 σ H ws) (hl : ∀ H', Ex H H' → AllLk n H' us ws) (hz : us.length ≤ 100) : Ev (tCallS (spLk (n + 1)) E (tCons t1 (tCons t2 tNil))) σ H (.bl true) := fun H1 e1 Q q =>
  h1 H1 e1 _ fun p H2 _ e2 hp => h2 H2 (e1.trans e2) _ fun p2 H3 _ e3 hp2 => ⟨.ref p, .ref p2, rfl, lk_tup (e3 _ _ hp) (.inr hp2) hz (hl H3 ((e1.trans e2).trans e3)), fun H4 e4 => q H4 ((e2.trans e3).trans e4)⟩
theorem ev_lk1 {n : Nat} {σ : L2.St} {H : Hp} {t1 t2 : TE} {E : L2.St → XK} {t : Addr} {us ws : List V} (h1 : Ev t1 σ H (.ref t)) (ht : H t = some (.tup us)) (h2 : EvU t2 σ H ws) (hl : ∀ H', Ex H H' → AllLk n H' us ws) (hz : us.length ≤ 100) : Ev (tCallS (spLk (n + 1)) E (tCons t1 (tCons t2 tNil))) σ H (.bl true) := fun H1 e1 Q q =>
  h1 H1 e1 _ fun H2 e2 => h2 H2 (e1.trans e2) _ fun p2 H3 _ e3 hp2 => ⟨.ref t, .ref p2, rfl, lk_tup (((e1.trans e2).trans e3) _ _ ht) (.inr hp2) hz (hl H3 ((e1.trans e2).trans e3)), fun H4 e4 => q H4 ((e2.trans e3).trans e4)⟩
theorem ev_ixT2 {σ : L2.St} {H : Hp} {te : TE} {a : Addr} {xs : List V} {i : Int} {v : V} (h : Ev te σ H (.ref a)) (ha : H a = some (.tup xs)) (hi : atI xs i = some v) : Ev (tOp (rIxT K) te (tC (.int i))) σ H v := ev_op h ev_c (rv_ixT (st_of ha) hi)
theorem scWd : FnScope ["_law_term_here"] ["_law_term_here"] (defScope (topS 58)) := ⟨rfl, rfl, rfl, by decide +kernel, rfl, by decide +kernel, by decide +kernel⟩
theorem ok_wd {f : Addr} {fd : FuncData} (F : Fun K "_law_width" "_law_width" (topS 58) f fd) (L : LawT K mg) : FnOk P w K mg base CX0 1 f fd ["_law_term_here"] spWd := by
  refine F.ok scWd (fun vs H Q E h => ?_) (fun cdv A outer s H vs Q E hr h => ?_)
  · obtain ⟨a, p, rfl, _⟩ := h
    rfl
  · obtain ⟨a, p, rfl, ht, q⟩ := h
    refine ⟨_, pss_cons (ps_if (pt_cmpR op_eq (pe_ix ix_tup (pv 0) pe_int (fun _ _ => rfl)) pe_str (nomark _)) (pss_one (ps_ret (pe_callB call_len_seq (by rfl) L.len PySem.boot_len (pa_cons (pe_ix ix_tup (pv 0) pe_int (fun _ _ => rfl)) pa_nil)))) pss_nil)
      (pss_one (ps_ret (pe_op op_sub (pe_callB call_len_seq (by rfl) L.len PySem.boot_len (pa_cons (pv 0) pa_nil)) pe_int))), ?_⟩
    cases p with
    | choice os =>
      unfold TrAt at ht
      obtain ⟨l, xs, h1, h2, h3⟩ := ht
      refine q_when (b := true) (et_is (et_test (ev_op (ev_ixT2 (ev_var rfl) h1 rfl) ev_c (rv_eq rfl))) kC_C) (fun _ H1 e1 => ?_) (fun z => nomatch z)
      refine s_ret (ev_is (ev_lenS (K := K) (ev_ixT2 (ev_var rfl) (e1 _ _ h1) rfl) (.inl (e1 _ _ h2))) (by rw [h3.len]; rfl)) (fun H2 e2 => q H2 (e1.trans e2))
    | new n k r =>
      unfold TrAt at ht
      obtain ⟨b, h1, _⟩ := ht
      refine q_when (b := false) (et_is (et_test (ev_op (ev_ixT2 (ev_var rfl) h1 rfl) ev_c (rv_eq rfl))) kN_C) (fun z => nomatch z) (fun _ H1 e1 => ?_)
      exact s_ret (ev_is (ev_op (x := .int 4) (y := .int 1) (ev_lenS (K := K) (ev_var rfl) (.inr (e1 _ _ h1))) ev_c rv_I0) rfl) (fun H2 e2 => q H2 (e1.trans e2))
    | cond l r y n =>
      unfold TrAt at ht
      obtain ⟨b, c, h1, _⟩ := ht
      refine q_when (b := false) (et_is (et_test (ev_op (ev_ixT2 (ev_var rfl) h1 rfl) ev_c (rv_eq rfl))) kI_C) (fun z => nomatch z) (fun _ H1 e1 => ?_)
      exact s_ret (ev_is (ev_op (x := .int 5) (y := .int 1) (ev_lenS (K := K) (ev_var rfl) (.inr (e1 _ _ h1))) ev_c rv_I0) rfl) (fun H2 e2 => q H2 (e1.trans e2))
    | call n ops =>
      unfold TrAt at ht
      obtain ⟨u, h1, _⟩ := ht
      refine q_when (b := false) (et_is (et_test (ev_op (ev_ixT2 (ev_var rfl) h1 rfl) ev_c (rv_eq rfl))) kL_C) (fun z => nomatch z) (fun _ H1 e1 => ?_)
      exact s_ret (ev_is (ev_op (x := .int 3) (y := .int 1) (ev_lenS (K := K) (ev_var rfl) (.inr (e1 _ _ h1))) ev_c rv_I0) rfl) (fun H2 e2 => q H2 (e1.trans e2))
theorem scSO : FnScope ["_law_offer_here", "_law_due"] ["_law_offer_here", "_law_due"] (defScope (topS 59)) := ⟨rfl, rfl, rfl, by decide +kernel, rfl, by decide +kernel, by decide +kernel⟩
theorem ok_so {f : Addr} {fd : FuncData} {k d : Nat} (hk : 3 ≤ k) (F : Fun K "_law_same_offer" "_law_same_offer" (topS 59) f fd) (L : LawT K mg) (B : BasT K mg) (htuple : mg "tuple" = none) (GL : CalX P w K mg base CX0 3 "_law_like" (spLk 2)) (GS : CalX P w K mg base CX0 k "_law_same" (spSm C d)) : FnOk P w K mg base CX0 (k + 1) f fd ["_law_offer_here", "_law_due"] (spSO C d) := by
  refine F.ok scSO (fun vs H Q E h => ?_) (fun cdv A outer s H vs Q E hr h => ?_)
  · obtain ⟨x, y, rfl, _⟩ := h
    rfl
  · obtain ⟨x, y, rfl, ⟨o, u, b, o', u', b', c, s9, m, op, ns, r, rfl, rfl, h3, h4, h5, h6, h7, h8, h9, h10, h11⟩, q⟩ := h
    refine ⟨_, pss_cons (ps_if (PW.pt (pw_or (pt_not (pt_val (pe_callB (id := "isinstance") (r := rIsi K) call_isi (by rfl) B.isinst (by decide +kernel) (pa_cons (pv 0) (pa_cons (pe_bltn (v := .ty "tuple") (by rfl) htuple (by decide +kernel) rfl) pa_nil))))) (pw_or1 (pt_cmpR op_ne (pe_callB call_len_seq (by rfl) L.len PySem.boot_len (pa_cons (pv 0) pa_nil)) pe_int (nomark _))))) (pss_one (ps_ret pe_bl)) pss_nil)
      (pss_one (ps_ret (pe_and (pe_cx (E := fun _ => E0) GL hr hk (by rfl) at0 (pa_cons (pe_slice sl_tup (pv 0) po_none (po_some pe_int)) (pa_cons (pe_slice sl_tup (pv 1) po_none (po_some pe_int)) pa_nil)))
        (pe_one (pe_cx (E := fun _ => E0) GS hr (Nat.le_refl _) (by rfl) at0 (pa_cons (pe_ix ix_tup (pv 0) pe_int (fun _ _ => rfl)) (pa_cons (pe_ix ix_tup (pv 1) pe_int (fun _ _ => rfl)) pa_nil))))))), ?_⟩
    refine q_when (b := false) (et_is (et_or (a := false) (b := false) (et_is (et_not (et_B (ev_cb (ea_cons (ev_var rfl) (ea_cons ev_c ea_nil)) (rc_isi (t := "tuple") (b := true) (fun H2 e2 => .base (.tup (e2 _ _ h3))) (by decide +kernel))))) rfl)
      (fun _ => et_is (et_test (ev_op (x := .int 6) (y := .int 6) (ev_lenS (K := K) (ev_var rfl) (.inr h3)) ev_c (rv_ne rfl))) (by decide +kernel))) rfl) (fun z => nomatch z) (fun _ H1 e1 => ?_)
    refine s_ret (v := .bl true) (ev_is (ev_andV (a := true) (b := true) (ev_lk2 (us := [.str c, .int s9, .int m, op.v, .ref u]) (ws := [.str c, .int s9, .int m, op.v, .ref u']) (eu_slT (K := K) (lo := none) (hi := some 5) (ev_var rfl) eo_none (eo_some ev_c) (e1 _ _ h3) (by show ¬ (HT.sIx 6 0 none = 0 ∧ HT.sIx 6 6 (some 5) = 6); decide +kernel)) (eu_slT (K := K) (lo := none) (hi := some 5) (ev_var rfl) eo_none (eo_some ev_c) (e1 _ _ h6) (by show ¬ (HT.sIx 6 0 none = 0 ∧ HT.sIx 6 6 (some 5) = 6); decide +kernel))
        (fun H2 e2 => ⟨lk_str, lk_int, lk_int, lk_opd, lk_names ((e1.trans e2) _ _ h4) ((e1.trans e2) _ _ h7) (by omega), trivial⟩) (by show 5 ≤ 100; decide))
      (fun _ => ev_cx (ea_cons (ev_ixT2 (ev_var rfl) (e1 _ _ h3) rfl) (ea_cons (ev_ixT2 (ev_var rfl) (e1 _ _ h6) rfl) ea_nil)) (fun H2 e2 Q2 q2 E2 => ⟨b, b', r, rfl, h5.ex (e1.trans e2), h8.ex (e1.trans e2), h10, h9, q2⟩))) rfl) (fun H2 e2 => q H2 (e1.trans e2))
end
end Fs

set_option Elab.async false
set_option linter.all false
set_option maxRecDepth 100000
set_option maxHeartbeats 8000000
/-! the law's look at a process, whole -/
namespace Fs
open PySem L2 Evl FsE FsC FsR FsT FsK FsP
section
variable {P : Program} {w : World} {K : PySem.W.Frag} {mg : Str → Option Value} {base : Heap} {C CB : Addr}
theorem kI_N2 : decide (V.str ("if" : Str) = V.str "new") = false := by decide +kernel
theorem scSm : FnScope ["_law_process", "_law_term_here", "_law_k"] ["_law_process", "_law_term_here"] (defScope (topS 57)) := ⟨rfl, rfl, rfl, by decide +kernel, rfl, by decide +kernel, by decide +kernel⟩
theorem ok_sm {f g : Addr} {fd gd : FuncData} (F : Fun K "_law_same" "_law_same" (topS 57) f fd) (Fo : Fun K "_law_same_offer" "_law_same_offer" (topS 59) g gd) (L : LawT K mg) (B : BasT K mg) (T : TerT K mg C CB) (htuple : mg "tuple" = none) (GL : CalX P w K mg base CX0 3 "_law_like" (spLk 2)) (GW : CalX P w K mg base CX0 1 "_law_width" spWd)
    (hm : mg "_law_same" = some (.ref f)) (kp : PySem.W.keepIn K (.ref f) = true) (bd : Binds K fd ["_law_process", "_law_term_here"] []) (hmo : mg "_law_same_offer" = some (.ref g)) (kpo : PySem.W.keepIn K (.ref g) = true) (bdo : Binds K gd ["_law_offer_here", "_law_due"] []) : ∀ d : Nat, FnOk P w K mg base CX0 (4 + 2 * d) f fd ["_law_process", "_law_term_here"] (spSm C d)
  | 0 => by
    refine F.ok scSm (fun vs H Q E h => ?_) (fun cdv A outer s H vs Q E hr h => ?_)
    · obtain ⟨c, a, p, rfl, _⟩ := h
      rfl
    · obtain ⟨c, a, p, rfl, _, _, _, hd, _⟩ := h
      have := Pr.depth_pos p
      exact absurd hd (by omega)
  | d + 1 => by
    have ih := ok_sm F Fo L B T htuple GL GW hm kp bd hmo kpo bdo d
    have GS : CalX P w K mg base CX0 (4 + 2 * d) "_law_same" (spSm C d) := ⟨f, fd, _, ih, hm, kp, bd⟩
    have GO : CalX P w K mg base CX0 (4 + 2 * d + 1) "_law_same_offer" (spSO C d) := ⟨g, gd, _, ok_so (by omega) Fo L B htuple GL GS, hmo, kpo, bdo⟩
    have ek : 4 + 2 * (d + 1) = 4 + 2 * d + 1 + 1 := by omega
    rw [ek]
    refine F.ok (k := 4 + 2 * d + 1) scSm (fun vs H Q E h => ?_) (fun cdv A outer s H vs Q E hr h => ?_)
    · obtain ⟨c, a, p, rfl, _⟩ := h
      rfl
    · obtain ⟨c, a, p, rfl, hp, ht, al, hd, q⟩ := h
      refine ⟨_, pss_cons (ps_if (PW.pt (pw_or (pt_not (pt_val (pe_callB (id := "isinstance") (r := rIsi K) call_isi (by rfl) B.isinst (by decide +kernel) (pa_cons (pv 0) (pa_cons (pe_glob (v := .ref C) (by rfl) T.mgC rfl) pa_nil))))) (pw_or1 (pt_cmpR op_ne (pe_fld (pv 0) rfl) (pe_ix ix_tup (pv 1) pe_int (fun _ _ => rfl)) (nomark _))))) (pss_one (ps_ret pe_bl)) pss_nil)
        (pss_cons (ps_if (PW.pt (pw_or (pt_not (pt_val (pe_callB (id := "isinstance") (r := rIsi K) call_isi (by rfl) B.isinst (by decide +kernel) (pa_cons (pe_fld (pv 0) rfl) (pa_cons (pe_bltn (v := .ty "tuple") (by rfl) htuple (by decide +kernel) rfl) pa_nil))))) (pw_or1 (pt_cmpR op_ne (pe_callB call_len_seq (by rfl) L.len PySem.boot_len (pa_cons (pe_fld (pv 0) rfl) pa_nil)) (pe_cx (E := fun _ => E0) GW hr (by omega) (by rfl) at0 (pa_cons (pv 1) pa_nil)) (nomark _))))) (pss_one (ps_ret pe_bl)) pss_nil)
        (pss_cons (ps_if (pt_cmpR op_eq (pe_ix ix_tup (pv 1) pe_int (fun _ _ => rfl)) pe_str (nomark _))
          (pss_one (ps_ret (pe_callB (cr_all rfl) (by rfl) B.all (by decide +kernel) (pa_cons (pe_lc (own := [("_law_k", 2)]) (g := gName 2) (tt := tYes) (te := tCallS (spSO C d) (fun _ => E0) (tCons (tOp (rIxT K) (tFld K (tVar 0) "parts") (tVar 2)) (tCons (tOp (rIxL K) (tOp (rIxT K) (tVar 1) (tC (.int 1))) (tVar 2)) tNil))) rfl scSm.nd
              (pi_range1 rfl L.range (pa_cons (pe_callB call_len_seq (by rfl) L.len PySem.boot_len (pa_cons (pe_ix ix_tup (pv 1) pe_int (fun _ _ => rfl)) pa_nil)) pa_nil)) (blkOk_by (own := [("_law_k", 2)]) (N := ["_law_process", "_law_term_here", "_law_k"]) (sc := defScope (topS 57)) (by decide +kernel))
              (fun _ _ _ _ _ => pg_name (i := 2) scSm.nd rfl (Or.inl rfl)) (fun _ _ _ _ _ => pts_nil) (fun _ _ _ _ _ => pe_cx (E := fun _ => E0) GO hr (Nat.le_refl _) (by rfl) at0 (pa_cons (pe_ix ix_tup (pe_fld (pv 0) rfl) (pv 2) (fun _ _ => rfl)) (pa_cons (pe_ix ix_list (pe_ix ix_tup (pv 1) pe_int (fun _ _ => rfl)) (pv 2) (fun _ _ => rfl)) pa_nil)))) pa_nil)))) pss_nil)
        (pss_cons (ps_if (pt_cmpR op_eq (pe_ix ix_tup (pv 1) pe_int (fun _ _ => rfl)) pe_str (nomark _))
          (pss_one (ps_ret (pe_and (pe_cx (E := fun _ => E0) GL hr (by omega) (by rfl) at0 (pa_cons (pe_slice sl_tup (pe_fld (pv 0) rfl) po_none (po_some pe_int)) (pa_cons (pe_slice sl_tup (pv 1) (po_some pe_int) (po_some pe_int)) pa_nil)))
            (pe_one (pe_cx (E := fun _ => E0) GS hr (by omega) (by rfl) at0 (pa_cons (pe_ix ix_tup (pe_fld (pv 0) rfl) pe_int (fun _ _ => rfl)) (pa_cons (pe_ix ix_tup (pv 1) pe_int (fun _ _ => rfl)) pa_nil))))))) pss_nil)
        (pss_cons (ps_if (pt_cmpR op_eq (pe_ix ix_tup (pv 1) pe_int (fun _ _ => rfl)) pe_str (nomark _))
          (pss_cons (ps_if (pt_not (pt_val (pe_cx (E := fun _ => E0) GL hr (by omega) (by rfl) at0 (pa_cons (pe_slice sl_tup (pe_fld (pv 0) rfl) po_none (po_some pe_int)) (pa_cons (pe_slice sl_tup (pv 1) (po_some pe_int) (po_some pe_int)) pa_nil))))) (pss_one (ps_ret pe_bl)) pss_nil)
          (pss_one (ps_ret (pe_and (pe_cx (E := fun _ => E0) GS hr (by omega) (by rfl) at0 (pa_cons (pe_ix ix_tup (pe_fld (pv 0) rfl) pe_int (fun _ _ => rfl)) (pa_cons (pe_ix ix_tup (pv 1) pe_int (fun _ _ => rfl)) pa_nil)))
            (pe_one (pe_cx (E := fun _ => E0) GS hr (by omega) (by rfl) at0 (pa_cons (pe_ix ix_tup (pe_fld (pv 0) rfl) pe_int (fun _ _ => rfl)) (pa_cons (pe_ix ix_tup (pv 1) pe_int (fun _ _ => rfl)) pa_nil)))))))) pss_nil)
        (pss_one (ps_ret (pe_cx (E := fun _ => E0) GL hr (by omega) (by rfl) at0 (pa_cons (pe_fld (pv 0) rfl) (pa_cons (pe_slice sl_tup (pv 1) (po_some pe_int) po_none) pa_nil))))))))), ?_⟩
      obtain ⟨t, xs, ⟨dx, h1⟩, h2, h3⟩ := hp.out
      have fK : ∀ {H9 : Hp}, Ex H H9 → Ev (tFld K (tVar 0) "kind") [some (.ref c), some (.ref a), none] H9 (.str p.kind) := fun e9 => ev_fld (ev_var rfl) (e9 _ _ h1) T.cl T.nK pf_kind
      have fP : ∀ {H9 : Hp} {v2 : Option V}, Ex H H9 → Ev (tFld K (tVar 0) "parts") [some (.ref c), some (.ref a), v2] H9 (.ref t) := fun e9 => ev_fld (ev_var rfl) (e9 _ _ h1) T.cl T.nP pf_parts
      have w2 : ∀ {H1 : Hp}, Ex H H1 → (xs.length : Int) = wdP p → EvT (tOr (tNot (tB (tCB (rIsi K) (tCons (tFld K (tVar 0) "parts") (tCons (tC (.ty "tuple")) tNil))))) (tTest (tOp rNe (tCB (fun xs H Q => ∃ p ys, xs = [V.ref p] ∧ (SqL K H p ys ∨ SqT K H p ys) ∧ Q (.int ys.length) H) (tCons (tFld K (tVar 0) "parts") tNil)) (tCallS spWd (fun _ => E0) (tCons (tVar 1) tNil))))) [some (.ref c), some (.ref a), none] H1 false := fun {H1} e1 hl =>
        et_is (et_or (a := false) (b := false) (et_is (et_not (et_B (ev_cb (ea_cons (fP e1) (ea_cons ev_c ea_nil)) (rc_isi (t := "tuple") (b := true) (fun H2 e2 => .base (.tup ((e1.trans e2) _ _ h2))) (by decide +kernel))))) rfl)
          (fun _ => et_is (et_test (ev_op (x := .int (xs.length : Int)) (y := .int (wdP p)) (ev_lenS (K := K) (fP e1) (.inr (e1 _ _ h2))) (ev_cx (ea_cons (ev_var rfl) ea_nil) (fun H2 e2 Q2 q2 E2 => ⟨a, p, rfl, ht.ex (e1.trans e2), q2⟩)) (rv_ne rfl))) (by rw [hl, decide_eq_true rfl]; rfl))) rfl
      have w1 : ∀ {z : V} {os : List V}, H a = some (.tup (z :: os)) → z = .str p.kind → EvT (tOr (tNot (tB (tCB (rIsi K) (tCons (tVar 0) (tCons (tC (.ref C)) tNil))))) (tTest (tOp rNe (tFld K (tVar 0) "kind") (tOp (rIxT K) (tVar 1) (tC (.int 0)))))) [some (.ref c), some (.ref a), none] H false := fun {z os} ha hz =>
        et_is (et_or (a := false) (b := false) (et_is (et_not (et_B (ev_cb (ea_cons (ev_var rfl) (ea_cons ev_c ea_nil)) (rc_isiOwn (tyx_pr T hp) kOwn)))) rfl)
          (fun _ => et_is (et_test (ev_op (x := .str p.kind) (y := .str p.kind) (fK (Ex.refl H)) (ev_is (ev_ixT2 (ev_var rfl) ha (show atI (z :: os) ((0 : Nat) : Int) = some z from atI_nat rfl)) hz) (rv_ne rfl))) (by rw [decide_eq_true rfl]; rfl))) rfl
      cases p with
      | choice os =>
        unfold TrAt at ht
        obtain ⟨l, ys, g1, g2, g3⟩ := id ht
        have hof : OfsAt C H xs os := h3
        have al' := al
        unfold AlP at al'
        have hd' := hd
        rw [Pr.depth] at hd'
        obtain ⟨n1, n2, n3⟩ := of_at (d := (d : Int)) hof g3 al'.2 (by omega)
        refine q_when (b := false) (w1 g1 rfl) (fun z => nomatch z) (fun _ H1 e1 => ?_)
        refine q_when (b := false) (w2 e1 (by rw [n1]; rfl)) (fun z => nomatch z) (fun _ H2 e2 => ?_)
        have x2 := e1.trans e2
        refine q_when (b := true) (et_is (et_test (ev_op (ev_ixT2 (ev_var rfl) (x2 _ _ g1) rfl) ev_c (rv_eq rfl))) kC_C) (fun _ H3 e3 => ?_) (fun z => nomatch z)
        have x3 := x2.trans e3
        refine s_ret (v := .bl true) (ev_is (ev_all (bs := (List.range ((ys.length : Int)).toNat).map fun _ => true) (by
          rw [List.map_map]
          exact el_lcRm (V.bl ∘ fun _ => true) (ea_cons (ev_lenS (K := K) (ev_ixT2 (ev_var rfl) (x3 _ _ g1) rfl) (.inl (x3 _ _ g2))) ea_nil) (by omega) (fun _ => rfl) (fun i H4 e4 hi => by
            obtain ⟨x, y, hx, hy, hxy⟩ := n3 i (by omega)
            have x4 := x3.trans e4
            exact ev_cx (ea_cons (ev_op (fP x4) (ev_var rfl) (rv_ixT (st_of (x4 _ _ h2)) (atI_nat hx))) (ea_cons (ev_op (ev_ixT2 (ev_var rfl) (x4 _ _ g1) rfl) (ev_var rfl) (rv_ixL (sq_of (x4 _ _ g2)) (atI_nat hy))) ea_nil)) (fun H5 e5 Q5 q5 E5 => ⟨x, y, rfl, hxy.ex (x4.trans e5), q5⟩)))) ?_) (fun H4 e4 => q H4 (x3.trans e4))
        refine congrArg V.bl (List.all_eq_true.mpr fun b hb => ?_)
        obtain ⟨_, _, rfl⟩ := List.mem_map.mp hb
        rfl
      | new n k r =>
        have ht0 := ht
        unfold TrAt at ht
        obtain ⟨b', g1, g2⟩ := ht
        obtain ⟨b, hxs, hb⟩ : ∃ b, xs = [.str n, .int k, .ref b] ∧ PrAt C H b r := h3
        subst hxs
        have al' := al
        unfold AlP at al'
        have hd' := hd
        rw [Pr.depth] at hd'
        refine q_when (b := false) (w1 g1 rfl) (fun z => nomatch z) (fun _ H1 e1 => ?_)
        refine q_when (b := false) (w2 e1 rfl) (fun z => nomatch z) (fun _ H2 e2 => ?_)
        have x2 := e1.trans e2
        refine q_when (b := false) (et_is (et_test (ev_op (ev_ixT2 (ev_var rfl) (x2 _ _ g1) rfl) ev_c (rv_eq rfl))) kN_C) (fun z => nomatch z) (fun _ H3 e3 => ?_)
        have x3 := x2.trans e3
        refine q_when (b := true) (et_is (et_test (ev_op (ev_ixT2 (ev_var rfl) (x3 _ _ g1) rfl) ev_c (rv_eq rfl))) kN_N) (fun _ H4 e4 => ?_) (fun z => nomatch z)
        have x4 := x3.trans e4
        exact s_ret (v := .bl true) (ev_is (ev_andV (a := true) (b := true) (ev_lk2 (us := [.str n, .int k]) (ws := [.str n, .int k]) (eu_slT (K := K) (lo := none) (hi := some 2) (fP x4) eo_none (eo_some ev_c) (x4 _ _ h2) (by show ¬ (HT.sIx 3 0 none = 0 ∧ HT.sIx 3 3 (some 2) = 3); decide +kernel)) (eu_slT (K := K) (lo := some 1) (hi := some 3) (ev_var rfl) (eo_some ev_c) (eo_some ev_c) (x4 _ _ g1) (by show ¬ (HT.sIx 4 0 (some 1) = 0 ∧ HT.sIx 4 4 (some 3) = 4); decide +kernel)) (fun H5 e5 => ⟨lk_str, lk_int, trivial⟩) (by show 2 ≤ 100; decide))
          (fun _ => ev_cx (ea_cons (ev_ixT2 (fP x4) (x4 _ _ h2) rfl) (ea_cons (ev_ixT2 (ev_var rfl) (x4 _ _ g1) rfl) ea_nil)) (fun H5 e5 Q5 q5 E5 => ⟨b, b', r, rfl, hb.ex (x4.trans e5), g2.ex (x4.trans e5), al'.2.2.2, by omega, q5⟩))) rfl) (fun H5 e5 => q H5 (x4.trans e5))
      | cond lo ro y n =>
        unfold TrAt at ht
        obtain ⟨b', c', g1, g2, g3⟩ := id ht
        obtain ⟨b, c2, hxs, hb, hc⟩ : ∃ b c2, xs = [lo.v, ro.v, .ref b, .ref c2] ∧ PrAt C H b y ∧ PrAt C H c2 n := h3
        subst hxs
        have al' := al
        unfold AlP at al'
        have hd' := hd
        rw [Pr.depth] at hd'
        refine q_when (b := false) (w1 g1 rfl) (fun z => nomatch z) (fun _ H1 e1 => ?_)
        refine q_when (b := false) (w2 e1 rfl) (fun z => nomatch z) (fun _ H2 e2 => ?_)
        have x2 := e1.trans e2
        refine q_when (b := false) (et_is (et_test (ev_op (ev_ixT2 (ev_var rfl) (x2 _ _ g1) rfl) ev_c (rv_eq rfl))) kI_C) (fun z => nomatch z) (fun _ H3 e3 => ?_)
        have x3 := x2.trans e3
        refine q_when (b := false) (et_is (et_test (ev_op (ev_ixT2 (ev_var rfl) (x3 _ _ g1) rfl) ev_c (rv_eq rfl))) kI_N) (fun z => nomatch z) (fun _ H4 e4 => ?_)
        have x4 := x3.trans e4
        refine q_when (b := true) (et_is (et_test (ev_op (ev_ixT2 (ev_var rfl) (x4 _ _ g1) rfl) ev_c (rv_eq rfl))) kI_I) (fun _ H5 e5 => ?_) (fun z => nomatch z)
        have x5 := x4.trans e5
        refine q_when (b := false) (et_is (et_not (et_B (ev_lk2 (us := [lo.v, ro.v]) (ws := [lo.v, ro.v]) (eu_slT (K := K) (lo := none) (hi := some 2) (fP x5) eo_none (eo_some ev_c) (x5 _ _ h2) (by show ¬ (HT.sIx 4 0 none = 0 ∧ HT.sIx 4 4 (some 2) = 4); decide +kernel)) (eu_slT (K := K) (lo := some 1) (hi := some 3) (ev_var rfl) (eo_some ev_c) (eo_some ev_c) (x5 _ _ g1) (by show ¬ (HT.sIx 5 0 (some 1) = 0 ∧ HT.sIx 5 5 (some 3) = 5); decide +kernel)) (fun H6 e6 => ⟨lk_opd, lk_opd, trivial⟩) (by show 2 ≤ 100; decide)))) rfl) (fun z => nomatch z) (fun _ H6 e6 => ?_)
        have x6 := x5.trans e6
        exact s_ret (v := .bl true) (ev_is (ev_andV (a := true) (b := true) (ev_cx (ea_cons (ev_ixT2 (fP x6) (x6 _ _ h2) rfl) (ea_cons (ev_ixT2 (ev_var rfl) (x6 _ _ g1) rfl) ea_nil)) (fun H7 e7 Q7 q7 E7 => ⟨b, b', y, rfl, hb.ex (x6.trans e7), g2.ex (x6.trans e7), al'.2.2.1, by omega, q7⟩))
          (fun _ => ev_cx (ea_cons (ev_ixT2 (fP x6) (x6 _ _ h2) rfl) (ea_cons (ev_ixT2 (ev_var rfl) (x6 _ _ g1) rfl) ea_nil)) (fun H7 e7 Q7 q7 E7 => ⟨c2, c', n, rfl, hc.ex (x6.trans e7), g3.ex (x6.trans e7), al'.2.2.2, by omega, q7⟩))) rfl) (fun H7 e7 => q H7 (x6.trans e7))
      | call n ops =>
        unfold TrAt at ht
        obtain ⟨u', g1, g2⟩ := id ht
        obtain ⟨u, hxs, hu⟩ : ∃ u, xs = [.str n, .ref u] ∧ H u = some (.tup (ops.map Opd.v)) := h3
        subst hxs
        have al' := al
        unfold AlP at al'
        refine q_when (b := false) (w1 g1 rfl) (fun z => nomatch z) (fun _ H1 e1 => ?_)
        refine q_when (b := false) (w2 e1 rfl) (fun z => nomatch z) (fun _ H2 e2 => ?_)
        have x2 := e1.trans e2
        refine q_when (b := false) (et_is (et_test (ev_op (ev_ixT2 (ev_var rfl) (x2 _ _ g1) rfl) ev_c (rv_eq rfl))) kL_C) (fun z => nomatch z) (fun _ H3 e3 => ?_)
        have x3 := x2.trans e3
        refine q_when (b := false) (et_is (et_test (ev_op (ev_ixT2 (ev_var rfl) (x3 _ _ g1) rfl) ev_c (rv_eq rfl))) kL_N) (fun z => nomatch z) (fun _ H4 e4 => ?_)
        have x4 := x3.trans e4
        refine q_when (b := false) (et_is (et_test (ev_op (ev_ixT2 (ev_var rfl) (x4 _ _ g1) rfl) ev_c (rv_eq rfl))) kL_I) (fun z => nomatch z) (fun _ H5 e5 => ?_)
        have x5 := x4.trans e5
        exact s_ret (v := .bl true) (ev_lk1 (us := [.str n, .ref u]) (ws := [.str n, .ref u']) (fP x5) (x5 _ _ h2) (eu_slT (K := K) (lo := some 1) (hi := none) (ev_var rfl) (eo_some ev_c) eo_none (x5 _ _ g1) (by show ¬ (HT.sIx 3 0 (some 1) = 0 ∧ HT.sIx 3 3 none = 3); decide +kernel)) (fun H6 e6 => ⟨lk_str, lk_ops ((x5.trans e6) _ _ hu) ((x5.trans e6) _ _ g2) (by omega), trivial⟩) (by show 2 ≤ 100; decide)) (fun H6 e6 => q H6 (x5.trans e6))
end
end Fs

set_option Elab.async false
set_option linter.all false
set_option maxRecDepth 100000
set_option maxHeartbeats 4000000
/-! == of tuples and of own instances, whatever the answer. -/
namespace FsQ
open PySem PySem.SeqAt
open AutoSeq1 (wpAny_loadPart')
open MeetsSeq MeetsSeq2 MeetsSeq3 SeqRoads2
open GQ
section
variable {prog : Program} {w : World} {A : Around} {R : Result → Shared → Prop}
theorem all_upto {e : Nat → Bool} {m : Nat} (h : ∀ j, j < m → e j = true) : (List.range m).all e = true := List.all_eq_true.mpr fun j hj => h j (List.mem_range.mp hj)
theorem not_all {e : Nat → Bool} {m i : Nat} (hi : i < m) (h : e i = false) : (List.range m).all e = false := by
  cases z : (List.range m).all e with
  | false => rfl
  | true =>
    have := List.all_eq_true.mp z i (List.mem_range.mpr hi)
    rw [h] at this
    cases this
/-- the walk over two tuples, the answer of each pair told -/
theorem tuple_any (l b : Addr) (xs ys : Array Value) (n n2 : Nat) (dd dd2 : Option Addr) (sl sl2 : Array (Option Value)) (e : Nat → Bool) (I : Nat → Shared → Prop)
    (pair : ∀ i (h1 : i < xs.size) (h2 : i < ys.size) s, I i s → wpAny (model prog w) A.in1 (eqBool xs[i] ys[i]) (fun r s' => r = e i ∧ I (i + 1) s') (fun z s' => R (.error z) s') s)
    (ends : ∀ i s, I i s → R (.ok (.ret (.bool ((List.range (min xs.size ys.size)).all e && (xs.size == ys.size))))) s) {s : Shared} (ha : s.heap.get? l = some { cls := .type "tuple", dict := dd, data := .seq xs n, slots := sl }) (hb : s.heap.get? b = some { cls := .type "tuple", dict := dd2, data := .seq ys n2, slots := sl2 }) (h0 : I 0 s) :
    wpAny (model prog w) A.in1 (Builtin.«tuple.__eq__» ⟨[.ref l, .ref b], []⟩) (FinOf prog w A R) (fun z s' => R (.error z) s') s := by
  have sub := AutoSeq1.sub_tuple_tuple
  have len : (xs.toList.zip ys.toList).length = min xs.size ys.size := by simp
  have start := h0
  obtain ⟨hp, g, d, tk, os⟩ := s
  wp_walk using wpAny_loadPart' ha, wpAny_loadPart' hb, wpAny_forIn_list _ (fun left acc s' => acc.1 = none ∧ ∃ i, left = (xs.toList.zip ys.toList).drop i ∧ i ≤ min xs.size ys.size ∧ (∀ j, j < i → e j = true) ∧ I i s') _
  case h => exact ⟨rfl, 0, rfl, Nat.zero_le _, fun j hj => absurd hj (Nat.not_lt_zero j), start⟩
  case turn =>
    rintro ⟨u, v⟩ left acc s' ⟨_, i, hz, _, hall, hI⟩
    have hi : i < (xs.toList.zip ys.toList).length := Nat.lt_of_not_le fun z => by
      rw [List.drop_of_length_le z] at hz
      cases hz
    have him : i < min xs.size ys.size := len ▸ hi
    have h1 : i < xs.size := Nat.lt_of_lt_of_le him (Nat.min_le_left _ _)
    have h2 : i < ys.size := Nat.lt_of_lt_of_le him (Nat.min_le_right _ _)
    rw [List.drop_eq_getElem_cons hi] at hz
    injection hz with hp0 hleft
    obtain rfl : u = xs[i] := by have := congrArg Prod.fst hp0; simpa using this
    obtain rfl : v = ys[i] := by have := congrArg Prod.snd hp0; simpa using this
    refine wpAny_bind (wpAny_mono (pair i h1 h2 s' hI) (fun r s2 ⟨hr, hI2⟩ => ?_) fun _ _ z => z)
    subst hr
    cases he : e i with
    | true =>
      wp_walk
      refine ⟨rfl, i + 1, hleft, him, fun j hj => ?_, hI2⟩
      by_cases z : j = i
      · rw [z, he]
      · exact hall j (by omega)
    | false =>
      have out := ends (i + 1) s2 hI2
      rw [not_all him he, Bool.false_and] at out
      wp_walk
      exact out
  case fin =>
    rintro ⟨a1, a2⟩ s' ⟨ha1, i, hz, hi, hall, hI⟩
    simp only at ha1
    subst ha1
    have hge : min xs.size ys.size ≤ i := Nat.le_of_not_lt fun z => by
      rw [List.drop_eq_getElem_cons (len ▸ z)] at hz
      cases hz
    obtain rfl : i = min xs.size ys.size := by omega
    have out := ends _ s' hI
    rw [all_upto hall, Bool.true_and] at out
    wp_walk
    simpa [Builtin.Tuple.tupleCompareSizes] using out
end
section
variable {prog : Program} {w : World} {A : Around} {E : Value → Shared → Prop} {s : Shared}
theorem rc_tuple_any {l b : Addr} {xs ys : Array Value} {e : Nat → Bool} {Q : Value → Shared → Prop} (hu : A.units < cLine) (I : Nat → Shared → Prop) (hl : s.heap.IsTuple l xs) (hb : s.heap.IsTuple b ys)
    (pair : ∀ i (h1 : i < xs.size) (h2 : i < ys.size) s, I i s → wpAny (model prog w) A.in1 (eqBool xs[i] ys[i]) (fun r s' => r = e i ∧ I (i + 1) s') E s)
    (ends : ∀ i s, I i s → Q (.bool ((List.range (min xs.size ys.size)).all e && (xs.size == ys.size))) s) (h0 : I 0 s) : wpAny (model prog w) A (richCompare .Eq (.ref l) (.ref b)) Q E s := by
  obtain ⟨⟨c1, d1, t1, s1⟩, o1, k1, n1, z1⟩ := id hl
  obtain ⟨⟨c2, d2, t2, s2⟩, o2, k2, n2, z2⟩ := id hb
  simp only at k1 z1 k2 z2
  subst k1 z1 k2 z2
  refine wpAny_richCompare_same_room (op := .Eq) ⟨_, o1, rfl⟩ ⟨_, o2, rfl⟩ F.slot_tuple_eq (call_here F.slot_tuple_eq ⟨_, o1, rfl⟩ F.entry_tuple_eq (F.args_tuple_eq_2 _ _) ?_) hu
  exact tuple_any (R := wants (fun v s' => v ≠ .notImplemented ∧ Q v s') E) l b xs ys n1 n2 d1 d2 s1 s2 e I pair (fun i s' q => ⟨(fun z => nomatch z), ends i s' q⟩) o1 o2 h0
end
end FsQ
namespace FsQ
open PySem PySem.Spec PyProof.Rows L2
/-- how two values compare, by the abstract heap -/
abbrev Cmp := V → V → Bool → Hp → Prop
def MonB (D : Cmp) : Prop := ∀ x y b H H', Ext H H' → D x y b H → D x y b H'
def EqB (X : Cx) (n : Nat) (D : Cmp) : Prop := ∀ (A : Around) (pins : List (Addr × Obj)) (s : Shared) (σ : L2.St) (H : Hp) (x y : V) (u v : Value) (b : Bool), Sub X n A → Inv X pins σ H s → RelV x u → RelV y v → D x y b H →
  wpAny (model X.prog X.w) A (eqBool u v) (fun r s' => r = b ∧ ∃ H', Inv X pins σ H' s' ∧ Ext H H') X.xe s
def RcB (X : Cx) (n : Nat) (D : Cmp) : Prop := ∀ (A : Around) (pins : List (Addr × Obj)) (s : Shared) (σ : L2.St) (H : Hp) (x y : V) (u v : Value) (b : Bool), Sub X n A → Inv X pins σ H s → RelV x u → RelV y v → D x y b H →
  wpAny (model X.prog X.w) A (richCompare .Eq u v) (fun r s' => r = .bool b ∧ ∃ H', Inv X pins σ H' s' ∧ Ext H H') X.xe s
/-- pair by pair, as far as both reach -/
def ZipB (D : Cmp) : List V → List V → List Bool → Hp → Prop
  | x :: xs, y :: ys, b :: bs, H => D x y b H ∧ ZipB D xs ys bs H
  | [], _, [], _ => True
  | _ :: _, [], [], _ => True
  | _, _, _, _ => False
def CFlat : Cmp := fun x y b _ => flatV x = true ∧ flatV y = true ∧ eqV x y = b
def CTup (D : Cmp) : Cmp := fun x y b H => ∃ a c xs ys bs, x = .ref a ∧ y = .ref c ∧ H a = some (.tup xs) ∧ H c = some (.tup ys) ∧ ZipB D xs ys bs H ∧ b = (bs.all id && (xs.length == ys.length))
def CIns (C : Addr) (R : Addr → Addr → Bool → Hp → Prop) : Cmp := fun x y b H => ∃ a c dx dy fs gs, x = .ref a ∧ y = .ref c ∧ H a = some (.ins C dx fs) ∧ H c = some (.ins C dy gs) ∧ R a c b H
/-- what the own == promises -/
def spEqB (R : Addr → Addr → Bool → Hp → Prop) : Sp := fun vs H Q _ => ∃ a c b, vs = [.ref a, .ref c] ∧ R a c b H ∧ ∀ H', Ext H H' → Q (.bl b) H'
section
variable {X : Cx} {n m : Nat} {D D' : Cmp}
theorem EqB.mono (h : EqB X n D) (hn : n ≤ m) : EqB X m D := fun A pins s σ H x y u v b sb => h A pins s σ H x y u v b (sb.mono hn)
theorem EqB.or (h : EqB X n D) (h' : EqB X n D') : EqB X n (fun x y b H => D x y b H ∨ D' x y b H) := fun A pins s σ H x y u v b sb I rx ry d => d.elim (h A pins s σ H x y u v b sb I rx ry) (h' A pins s σ H x y u v b sb I rx ry)
theorem MonB.or (h : MonB D) (h' : MonB D') : MonB (fun x y b H => D x y b H ∨ D' x y b H) := fun x y b H H' e d => d.elim (fun d => .inl (h x y b H H' e d)) fun d => .inr (h' x y b H H' e d)
theorem ZipB.mon (hD : MonB D) {H H' : Hp} (e : Ext H H') : ∀ {xs ys : List V} {bs : List Bool}, ZipB D xs ys bs H → ZipB D xs ys bs H'
  | _ :: _, _ :: _, _ :: _, h => ⟨hD _ _ _ _ _ e h.1, ZipB.mon hD e h.2⟩
  | [], _, [], _ => trivial
  | _ :: _, [], [], _ => trivial
  | [], [], _ :: _, h => h.elim
  | [], _ :: _, _ :: _, h => h.elim
  | _ :: _, [], _ :: _, h => h.elim
  | _ :: _, _ :: _, [], h => h.elim
theorem ZipB.len {H : Hp} : ∀ {xs ys : List V} {bs : List Bool}, ZipB D xs ys bs H → bs.length = min xs.length ys.length
  | _ :: _, _ :: _, _ :: _, h => by
    have := ZipB.len h.2
    simp only [List.length_cons]
    omega
  | [], _, [], _ => by simp
  | _ :: _, [], [], _ => by simp
  | [], [], _ :: _, h => h.elim
  | [], _ :: _, _ :: _, h => h.elim
  | _ :: _, [], _ :: _, h => h.elim
  | _ :: _, _ :: _, [], h => h.elim
theorem ZipB.get {H : Hp} : ∀ {xs ys : List V} {bs : List Bool} {i : Nat} {x y : V}, ZipB D xs ys bs H → xs[i]? = some x → ys[i]? = some y → ∃ b, bs[i]? = some b ∧ D x y b H
  | _ :: _, _ :: _, b :: _, 0, _, _, h, h1, h2 => by
    cases h1
    cases h2
    exact ⟨b, rfl, h.1⟩
  | _ :: _, _ :: _, _ :: _, i + 1, _, _, h, h1, h2 => ZipB.get (i := i) h.2 h1 h2
  | [], _, _, _, _, _, _, h1, _ => by simp at h1
  | _ :: _, [], _, _, _, _, _, _, h2 => by simp at h2
  | _ :: _, _ :: _, [], _, _, _, h, _, _ => h.elim
theorem all_getD : ∀ (bs : List Bool), (List.range bs.length).all (fun i => bs.getD i true) = bs.all id
  | [] => rfl
  | b :: bs => by
    rw [List.length_cons, List.range_succ_eq_map, List.all_cons, List.all_cons, List.all_map]
    show (b && (List.range bs.length).all fun i => bs.getD i true) = _
    rw [all_getD bs]
    rfl
theorem monB_flat : MonB CFlat := fun _ _ _ _ _ _ d => d
theorem monB_tup (hD : MonB D) : MonB (CTup D) := fun x y b H H' e ⟨a, c, xs, ys, bs, h1, h2, h3, h4, h5, h6⟩ => ⟨a, c, xs, ys, bs, h1, h2, e _ _ h3, e _ _ h4, h5.mon hD e, h6⟩
theorem monB_ins {C : Addr} {R : Addr → Addr → Bool → Hp → Prop} (hR : ∀ a c b H H', Ext H H' → R a c b H → R a c b H') : MonB (CIns C R) := fun x y b H H' e ⟨a, c, dx, dy, fs, gs, h1, h2, h3, h4, h5⟩ => ⟨a, c, dx, dy, fs, gs, h1, h2, e _ _ h3, e _ _ h4, hR _ _ _ _ _ e h5⟩
theorem eqB_flat : EqB X 0 CFlat := by
  intro A pins s σ H x y u v b sb I rx ry ⟨fx, fy, e⟩
  subst e
  exact eqAt_V (A := A) (s := s) rx ry fx fy X.prog X.w X.xe _ ⟨rfl, H, I, Ext.rfl'⟩
theorem rcB_tup (hD : MonB D) (h : EqB X n D) : RcB X (n + 1) (CTup D) := by
  intro A pins s σ H x y u v b sb I rx ry ⟨a, c, xs, ys, bs, ex, ey, ha, hc, hz, hb⟩
  subst ex ey
  cases rx
  cases ry
  obtain ⟨us, r, e1, _⟩ := I.tuple (.inl (.inl ha))
  obtain ⟨vs, r2, e2, _⟩ := I.tuple (.inl (.inl hc))
  have n1 : us.toArray.size = xs.length := by rw [List.size_toArray, ← r.length]
  have n2 : vs.toArray.size = ys.length := by rw [List.size_toArray, ← r2.length]
  have hl := hz.len
  have ans : ((List.range (min us.toArray.size vs.toArray.size)).all (fun i => bs.getD i true) && (us.toArray.size == vs.toArray.size)) = b := by
    rw [n1, n2, ← hl, all_getD, hb]
  refine rc_tuple_any (e := fun i => bs.getD i true) sb.room.units0 (fun _ s' => LoopI X pins σ H s') e1 e2 (fun i h1 h2 s' ⟨H1, I1, x1⟩ => ?_) (fun i s' q => ⟨by rw [ans], q⟩) ⟨H, I, Ext.rfl'⟩
  have k1 : i < xs.length := n1 ▸ h1
  have k2 : i < ys.length := n2 ▸ h2
  obtain ⟨p, hp, rp⟩ := r.get (List.getElem?_eq_getElem k1)
  obtain ⟨q, hq, rq⟩ := r2.get (List.getElem?_eq_getElem k2)
  obtain ⟨z, hz1, hz2⟩ := (hz.mon hD x1).get (List.getElem?_eq_getElem k1) (List.getElem?_eq_getElem k2)
  have g1 : us.toArray[i] = p := by
    have h1' : i < us.length := by simpa using h1
    rw [List.getElem?_eq_getElem h1'] at hp
    simpa using Option.some.inj hp
  have g2 : vs.toArray[i] = q := by
    have h2' : i < vs.length := by simpa using h2
    rw [List.getElem?_eq_getElem h2'] at hq
    simpa using Option.some.inj hq
  rw [g1, g2]
  refine wpAny_mono (h A.in1 pins s' σ H1 _ _ p q z sb.in1 I1 rp rq hz2) (fun t s2 ⟨ht, H2, I2, x2⟩ => ?_) fun _ _ z => z
  refine ⟨?_, H2, I2, x1.trans x2⟩
  rw [ht, List.getD_eq_getElem?_getD, hz1]
  rfl
/-- a value is equal to itself -/
def SelfB (D : Cmp) : Prop := ∀ x b H, D x x b H → b = true
theorem SelfB.or (h : SelfB D) (h' : SelfB D') : SelfB (fun x y b H => D x y b H ∨ D' x y b H) := fun x b H d => d.elim (h x b H) (h' x b H)
theorem eqV_self : ∀ x : V, flatV x = true → eqV x x = true
  | .non, _ => rfl
  | .bl b, _ => by show (b == b) = true; exact beq_self_eq_true b
  | .int i, _ => by show (i == i) = true; exact beq_self_eq_true i
  | .str z, _ => by show (z == z) = true; exact beq_self_eq_true z
theorem self_flat : SelfB CFlat := fun x b H ⟨h1, _, h3⟩ => h3 ▸ eqV_self x h1
theorem zip_self (h : SelfB D) {H : Hp} : ∀ {xs : List V} {bs : List Bool}, ZipB D xs xs bs H → bs.all id = true
  | [], [], _ => rfl
  | x :: xs, b :: bs, z => by
    rw [List.all_cons, zip_self h z.2, Bool.and_true]
    exact h x b H z.1
  | [], _ :: _, z => z.elim
  | _ :: _, [], z => z.elim
theorem self_tup (h : SelfB D) : SelfB (CTup D) := fun x b H ⟨a, c, xs, ys, bs, e1, e2, h1, h2, h3, h4⟩ => by
  subst e1
  cases e2
  rw [h1] at h2
  cases h2
  rw [h4, zip_self h h3]
  simp
theorem self_ins {C : Addr} {R : Addr → Addr → Bool → Hp → Prop} (h : ∀ a b H, R a a b H → b = true) : SelfB (CIns C R) := fun x b H ⟨a, c, _, _, _, _, e1, e2, _, _, hr⟩ => by
  subst e1
  cases e2
  exact h a b H hr
/-- the same object is equal to itself -/
theorem RcB.eqB (h : RcB X n D) (hr : ∀ x y b H, D x y b H → ∃ a c, x = .ref a ∧ y = .ref c) (hs : SelfB D) : EqB X n D := by
  intro A pins s σ H x y u v b sb I rx ry d
  obtain ⟨a, c, rfl, rfl⟩ := hr _ _ _ _ d
  cases rx
  cases ry
  by_cases hac : a = c
  · subst hac
    obtain rfl := hs _ _ _ d
    exact SeqAt.EqAt.same (A := A) (s := s) (.ref a) X.prog X.w X.xe _ ⟨rfl, H, I, Ext.rfl'⟩
  · exact GQ.eqBool_refG hac (wpAny_mono (h A pins s σ H (.ref a) (.ref c) _ _ b sb I rfl rfl d) (fun r s' ⟨q1, q2⟩ => ⟨b, q1, rfl, q2⟩) fun _ _ z => z)
/-- x == y as an expression -/
def rEqB (D : Cmp) : R2 := fun x y H Q => ∃ b, D x y b H ∧ ∀ H', Ext H H' → Q (.bl b) H'
theorem op_eqB (h : RcB X n D) (hr : Room n X.A) : OpR X (compareOp .Eq) (rEqB D) := by
  intro pins s σ H x y v u Q I rx ry ⟨b, d, q⟩
  show wpAny (model X.prog X.w) X.A (richCompare .Eq v u) (EP X pins σ Q) X.xe s
  refine wpAny_mono (h X.A pins s σ H x y v u b ⟨hr, rfl⟩ I rx ry d) (fun r s' ⟨z, H', I', e⟩ => ?_) fun _ _ z => z
  subst z
  exact ⟨.bl b, H', I', rfl, q H' e⟩
theorem rcB_ins {CX : CXT} {C f : Addr} {fd : FuncData} {ps : List Str} {R : Addr → Addr → Bool → Hp → Prop} {E : XK} (F : FnOk X.prog X.w X.K X.mg X.base CX n f fd ps (spEqB R))
    (hs : PySem.W.findIn X.K (.ref C) "__eq__" = some (some (.ref f))) (hf : PySem.W.isFn X.K (.ref f) = true) (hb : Binds X.K fd ps []) (hx : Passes CX X E) : RcB X n (CIns C R) := by
  intro A pins s σ H x y u v b sb I rx ry ⟨a, c, dx, dy, fs, gs, ex, ey, ha, hc, hr⟩
  subst ex ey
  cases rx
  cases ry
  obtain ⟨_, J, _⟩ := ins_get I.hok ha
  obtain ⟨_, J', _⟩ := ins_get I.hok hc
  obtain ⟨_, J, _⟩ := J.look
  obtain ⟨_, J', _⟩ := J'.look
  obtain ⟨m, hF⟩ := I.fr
  refine PySem.W.cmp_K (op := .Eq) (tb := .ref C) sb.room.units0 hF I.ok.mod.kin J J'.type (by simp [PySem.W.notFirst]) hs hf ?_
  have sp : spEqB R [.ref a, .ref c] H (fun v H' => v = .bl b ∧ Ext H H') E := ⟨a, c, b, rfl, hr, fun H' e => ⟨rfl, e⟩⟩
  have e0 := I.env0
  have e1 : Env0 X.prog X.w X.K X.mg X.base A X.stack s H := ⟨sb.fr.trans e0.frames, e0.mod, e0.bs, e0.bsz, e0.funs, e0.frf, e0.hok, e0.bare⟩
  have two : [Value.ref a, Value.ref c].length = ps.length := F.len _ _ _ _ sp
  have bnd := hb s [.ref a, .ref c] I.kIn (by rw [List.append_nil]; exact two)
  rw [List.append_nil] at bnd
  refine wpAny_call (codeAny_mono (F.run A X.stack s H ⟨[.ref a, .ref c], []⟩ [.ref a, .ref c] [.ref a, .ref c] _ E sb.room e1 bnd (.cons rfl (.cons rfl .nil)) sp) fun r s' hq => ?_)
  cases r with
  | error z => exact hx pins σ H s z s' I hq
  | ok fl =>
    cases fl with
    | ret t =>
      obtain ⟨z, H', I', rz, ez, ext⟩ := I.after hq
      subst ez
      cases rz
      exact ⟨rfl, H', I', ext⟩
    | next => exact False.elim hq
    | brk => exact False.elim hq
    | cont => exact False.elim hq
end
end FsQ

set_option Elab.async false
set_option linter.all false
set_option maxRecDepth 100000
set_option maxHeartbeats 4000000
/-! Two processes by the class's own ==, whatever the answer. -/
namespace Fs
open PySem L2 Evl FsE FsC FsR FsQ
noncomputable def same {α : Type} (x y : α) : Bool := @decide (x = y) (Classical.propDecidable _)
theorem same_iff {α : Type} {x y : α} : same x y = true ↔ x = y := @decide_eq_true_iff _ (Classical.propDecidable _)
theorem same_is {α : Type} {x y : α} {b : Bool} (h : b = true ↔ x = y) : b = same x y := Bool.eq_iff_iff.mpr (h.trans same_iff.symm)
theorem same_self {α : Type} (x : α) : same x x = true := same_iff.mpr rfl
/-! a process by where it stands -/
def kTag (k : Str) : Nat := if k = "choice" then 0 else if k = "new" then 1 else if k = "if" then 2 else 3
def Pr.tag : Pr → Nat
  | .choice _ => 0
  | .new _ _ _ => 1
  | .cond _ _ _ _ => 2
  | .call _ _ => 3
theorem tag_kind (p : Pr) : kTag p.kind = p.tag := by
  cases p with
  | choice os => show kTag "choice" = 0; decide +kernel
  | new n k r => show kTag "new" = 1; decide +kernel
  | cond l r y n => show kTag "if" = 2; decide +kernel
  | call n ops => show kTag "call" = 3; decide +kernel
theorem Opd.v_inj {o q : Opd} (h : o.v = q.v) : o = q := by
  cases o <;> cases q <;> cases h <;> rfl
theorem map_inj {α β : Type} {f : α → β} (hf : ∀ x y, f x = f y → x = y) : ∀ {xs ys : List α}, xs.map f = ys.map f → xs = ys
  | [], [], _ => rfl
  | [], _ :: _, h => nomatch h
  | _ :: _, [], h => nomatch h
  | x :: xs, y :: ys, h => by
    injection h with h1 h2
    rw [hf _ _ h1, map_inj hf h2]
theorem InsAt.uniq {C a t t' : Addr} {H : Hp} {k k' : Str} {d z d' z' : Int} (h : InsAt C H a k t d z) (g : InsAt C H a k' t' d' z') : k = k' ∧ t = t' := by
  obtain ⟨dx, h⟩ := h
  obtain ⟨dy, g⟩ := g
  rw [h] at g
  have e : pFlds k t d z = pFlds k' t' d' z' := by
    have := Option.some.inj g
    injection this
  have e1 : some (V.str k) = some (V.str k') := by rw [← pf_kind (k := k) (t := t) (d := d) (z := z), e, pf_kind]
  have e2 : some (V.ref t) = some (V.ref t') := by rw [← pf_parts (k := k) (t := t) (d := d) (z := z), e, pf_parts]
  cases e1
  cases e2
  exact ⟨rfl, rfl⟩
theorem kind_of {C a : Addr} {H : Hp} {p q : Pr} (h : PrAt C H a p) (g : PrAt C H a q) : p.tag = q.tag := by
  obtain ⟨t, ps, h1, _⟩ := h.ins
  obtain ⟨t', ps', g1, _⟩ := g.ins
  rw [← tag_kind, ← tag_kind, (h1.uniq g1).1]
mutual
theorem PrAt.uniq {C : Addr} {H : Hp} : ∀ {p q : Pr} {a : Addr}, PrAt C H a p → PrAt C H a q → p = q
  | .choice os, .choice qs, a, h, g => by
    unfold PrAt at h g
    obtain ⟨t, ps, h1, h2, h3⟩ := h
    obtain ⟨t', ps', g1, g2, g3⟩ := g
    obtain ⟨_, rfl⟩ := h1.uniq g1
    rw [h2] at g2
    cases g2
    rw [OfsAt.uniq h3 g3]
  | .new n k r, .new n' k' r', a, h, g => by
    unfold PrAt at h g
    obtain ⟨t, b, h1, h2, h3⟩ := h
    obtain ⟨t', b', g1, g2, g3⟩ := g
    obtain ⟨_, rfl⟩ := h1.uniq g1
    rw [h2] at g2
    cases g2
    rw [PrAt.uniq h3 g3]
  | .cond l r y n, .cond l' r' y' n', a, h, g => by
    unfold PrAt at h g
    obtain ⟨t, b, c, h1, h2, h3, h4⟩ := h
    obtain ⟨t', b', c', g1, g2, g3, g4⟩ := g
    obtain ⟨_, rfl⟩ := h1.uniq g1
    rw [h2] at g2
    injection g2 with g2
    injection g2 with g2
    injection g2 with e1 g2
    injection g2 with e2 g2
    injection g2 with e3 g2
    injection g2 with e4 g2
    cases e3
    cases e4
    rw [Opd.v_inj e1, Opd.v_inj e2, PrAt.uniq h3 g3, PrAt.uniq h4 g4]
  | .call n ops, .call n' ops', a, h, g => by
    unfold PrAt at h g
    obtain ⟨t, u, h1, h2, h3⟩ := h
    obtain ⟨t', u', g1, g2, g3⟩ := g
    obtain ⟨_, rfl⟩ := h1.uniq g1
    rw [h2] at g2
    cases g2
    rw [h3] at g3
    have e : ops.map Opd.v = ops'.map Opd.v := by
      have := Option.some.inj g3
      injection this
    rw [map_inj (fun _ _ => Opd.v_inj) e]
  | .choice _, .new _ _ _, _, h, g => absurd (kind_of h g) (by show ¬ 0 = 1; decide)
  | .choice _, .cond _ _ _ _, _, h, g => absurd (kind_of h g) (by show ¬ 0 = 2; decide)
  | .choice _, .call _ _, _, h, g => absurd (kind_of h g) (by show ¬ 0 = 3; decide)
  | .new _ _ _, .choice _, _, h, g => absurd (kind_of h g) (by show ¬ 1 = 0; decide)
  | .new _ _ _, .cond _ _ _ _, _, h, g => absurd (kind_of h g) (by show ¬ 1 = 2; decide)
  | .new _ _ _, .call _ _, _, h, g => absurd (kind_of h g) (by show ¬ 1 = 3; decide)
  | .cond _ _ _ _, .choice _, _, h, g => absurd (kind_of h g) (by show ¬ 2 = 0; decide)
  | .cond _ _ _ _, .new _ _ _, _, h, g => absurd (kind_of h g) (by show ¬ 2 = 1; decide)
  | .cond _ _ _ _, .call _ _, _, h, g => absurd (kind_of h g) (by show ¬ 2 = 3; decide)
  | .call _ _, .choice _, _, h, g => absurd (kind_of h g) (by show ¬ 3 = 0; decide)
  | .call _ _, .new _ _ _, _, h, g => absurd (kind_of h g) (by show ¬ 3 = 1; decide)
  | .call _ _, .cond _ _ _ _, _, h, g => absurd (kind_of h g) (by show ¬ 3 = 2; decide)
theorem OfsAt.uniq {C : Addr} {H : Hp} : ∀ {os qs : Ofs} {ps : List V}, OfsAt C H ps os → OfsAt C H ps qs → os = qs
  | .nil, .nil, _, _, _ => rfl
  | .nil, .cons _ _ _ _ _ _ _, ps, h, g => by
    unfold OfsAt at h g
    subst h
    obtain ⟨_, _, _, _, e, _⟩ := g
    cases e
  | .cons _ _ _ _ _ _ _, .nil, ps, h, g => by
    unfold OfsAt at h g
    subst g
    obtain ⟨_, _, _, _, e, _⟩ := h
    cases e
  | .cons c s m op ns r os, .cons c' s' m' op' ns' r' os', ps, h, g => by
    unfold OfsAt at h g
    obtain ⟨o, u, b, qs, rfl, h1, h2, h3, h4⟩ := h
    obtain ⟨o', u', b', qs', e, g1, g2, g3, g4⟩ := g
    cases e
    rw [h1] at g1
    injection g1 with g1
    injection g1 with g1
    injection g1 with e1 g1
    injection g1 with e2 g1
    injection g1 with e3 g1
    injection g1 with e4 g1
    injection g1 with e5 g1
    injection g1 with e6 g1
    cases e1
    cases e2
    cases e3
    cases e5
    cases e6
    rw [h2] at g2
    have e7 : ns.map V.str = ns'.map V.str := by
      have := Option.some.inj g2
      injection this
    rw [Opd.v_inj e4, map_inj (fun _ _ z => by cases z; rfl) e7, PrAt.uniq h3 g3, OfsAt.uniq h4 g4]
end
/-- processes, one of depth d at most -/
def RPrB (C : Addr) (d : Nat) (a c : Addr) (b : Bool) (H : Hp) : Prop := ∃ p q : Pr, p.depth ≤ (d : Int) ∧ PrAt C H a p ∧ PrAt C H c q ∧ b = same p q
theorem RPrB.ext {C : Addr} {d : Nat} {a c : Addr} {b : Bool} {H H' : Hp} (e : Ext H H') (h : RPrB C d a c b H) : RPrB C d a c b H' := by
  obtain ⟨p, q, hd, h1, h2, h3⟩ := h
  exact ⟨p, q, hd, h1.ex e, h2.ex e, h3⟩
theorem RPrB.self {C : Addr} {d : Nat} {a : Addr} {b : Bool} {H : Hp} (h : RPrB C d a a b H) : b = true := by
  obtain ⟨p, q, _, h1, h2, h3⟩ := h
  rw [h3, h1.uniq h2]
  exact same_self _
abbrev COr (D D' : Cmp) : Cmp := fun x y b H => D x y b H ∨ D' x y b H
abbrev CIt (C : Addr) (d : Nat) : Cmp := COr (COr CFlat (CTup CFlat)) (CIns C (RPrB C d))
abbrev CPt (C : Addr) (d : Nat) : Cmp := COr (CIt C d) (CTup (CIt C d))
theorem mon_itB {C : Addr} {d : Nat} : MonB (CIt C d) := (monB_flat.or (monB_tup monB_flat)).or (monB_ins fun _ _ _ _ _ e h => h.ext e)
theorem mon_ptB {C : Addr} {d : Nat} : MonB (CPt C d) := mon_itB.or (monB_tup mon_itB)
section
variable {C : Addr} {d : Nat} {H : Hp}
theorem bf_str {x y : Str} : CFlat (.str x) (.str y) (same x y) H := ⟨rfl, rfl, same_is (by show (x == y) = true ↔ x = y; exact beq_iff_eq)⟩
theorem bf_int {x y : Int} : CFlat (.int x) (.int y) (same x y) H := ⟨rfl, rfl, same_is (by show (x == y) = true ↔ x = y; exact beq_iff_eq)⟩
theorem bf_opd {o q : Opd} : CFlat o.v q.v (same o q) H := by
  cases o with
  | int i =>
    cases q with
    | int j => exact ⟨rfl, rfl, same_is (by show (i == j) = true ↔ _; rw [beq_iff_eq]; exact ⟨fun z => by rw [z], fun z => by cases z; rfl⟩)⟩
    | nm y => exact ⟨rfl, rfl, same_is (by show false = true ↔ _; exact ⟨(fun z => nomatch z), (fun z => nomatch z)⟩)⟩
  | nm x =>
    cases q with
    | int j => exact ⟨rfl, rfl, same_is (by show false = true ↔ _; exact ⟨(fun z => nomatch z), (fun z => nomatch z)⟩)⟩
    | nm y => exact ⟨rfl, rfl, same_is (by show (x == y) = true ↔ _; rw [beq_iff_eq]; exact ⟨fun z => by rw [z], fun z => by cases z; rfl⟩)⟩
theorem zip_fl {α : Type} {f : α → V} (hf : ∀ x y, CFlat (f x) (f y) (same x y) H) : ∀ (xs ys : List α), ∃ bs, ZipB CFlat (xs.map f) (ys.map f) bs H ∧ (bs.all id && ((xs.map f).length == (ys.map f).length)) = same xs ys
  | [], [] => ⟨[], trivial, (same_self _).symm⟩
  | [], y :: ys => ⟨[], trivial, same_is ⟨fun z => by simp at z, fun z => nomatch z⟩⟩
  | x :: xs, [] => ⟨[], trivial, same_is ⟨fun z => by simp at z, fun z => nomatch z⟩⟩
  | x :: xs, y :: ys => by
    obtain ⟨bs, h1, h2⟩ := zip_fl hf xs ys
    refine ⟨same x y :: bs, ⟨hf x y, h1⟩, same_is ?_⟩
    rw [List.all_cons, List.map_cons, List.map_cons, List.length_cons, List.length_cons]
    have e : ((xs.map f).length + 1 == (ys.map f).length + 1) = ((xs.map f).length == (ys.map f).length) := Bool.eq_iff_iff.mpr (by simp)
    rw [e, Bool.and_assoc, h2]
    show (same x y && same xs ys) = true ↔ _
    rw [Bool.and_eq_true, same_iff, same_iff, List.cons.injEq]
theorem bt_tup {α : Type} {f : α → V} (hf : ∀ x y, CFlat (f x) (f y) (same x y) H) {a c : Addr} {xs ys : List α} (ha : H a = some (.tup (xs.map f))) (hc : H c = some (.tup (ys.map f))) : CIt C d (.ref a) (.ref c) (same xs ys) H := by
  obtain ⟨bs, h1, h2⟩ := zip_fl hf xs ys
  exact .inl (.inr ⟨a, c, _, _, bs, rfl, rfl, ha, hc, h1, h2.symm⟩)
theorem bi_pr {a c : Addr} {p q : Pr} (hd : p.depth ≤ (d : Int)) (ha : PrAt C H a p) (hc : PrAt C H c q) : CIt C d (.ref a) (.ref c) (same p q) H := by
  obtain ⟨t, ps, ⟨dx, h1⟩, _⟩ := ha.out
  obtain ⟨t2, ps2, ⟨dy, h2⟩, _⟩ := hc.out
  exact .inr ⟨a, c, dx, dy, _, _, rfl, rfl, h1, h2, p, q, hd, ha, hc, rfl⟩
theorem bf_it {x y : V} {b : Bool} (h : CFlat x y b H) : CIt C d x y b H := .inl (.inl h)
theorem zip_ofs : ∀ {os qs : Ofs} {xs ys : List V}, os.depth ≤ (d : Int) → OfsAt C H xs os → OfsAt C H ys qs → ∃ bs, ZipB (CPt C d) xs ys bs H ∧ (bs.all id && (xs.length == ys.length)) = same os qs
  | .nil, .nil, xs, ys, _, h, g => by
    unfold OfsAt at h g
    subst h g
    exact ⟨[], trivial, (same_self _).symm⟩
  | .nil, .cons _ _ _ _ _ _ _, xs, ys, _, h, g => by
    unfold OfsAt at h g
    subst h
    obtain ⟨_, _, _, _, rfl, _⟩ := g
    exact ⟨[], trivial, same_is ⟨fun z => by simp at z, fun z => nomatch z⟩⟩
  | .cons _ _ _ _ _ _ _, .nil, xs, ys, _, h, g => by
    unfold OfsAt at h g
    subst g
    obtain ⟨_, _, _, _, rfl, _⟩ := h
    exact ⟨[], trivial, same_is ⟨fun z => by simp at z, fun z => nomatch z⟩⟩
  | .cons c s m op ns r os, .cons c' s' m' op' ns' r' os', xs, ys, hd, h, g => by
    rw [Ofs.depth] at hd
    unfold OfsAt at h g
    obtain ⟨o, u, b, zs, rfl, h1, h2, h3, h4⟩ := h
    obtain ⟨o', u', b', zs', rfl, g1, g2, g3, g4⟩ := g
    obtain ⟨bs, k1, k2⟩ := zip_ofs (by omega) h4 g4
    refine ⟨(same c c' && (same s s' && (same m m' && (same op op' && (same ns ns' && same r r'))))) :: bs, ⟨.inr ⟨o, o', _, _, [same c c', same s s', same m m', same op op', same ns ns', same r r'], rfl, rfl, h1, g1, ⟨bf_it bf_str, bf_it bf_int, bf_it bf_int, bf_it bf_opd, bt_tup (fun _ _ => bf_str) h2 g2, bi_pr (by omega) h3 g3, trivial⟩, ?_⟩, k1⟩, same_is ?_⟩
    · show _ = ((same c c' && (same s s' && (same m m' && (same op op' && (same ns ns' && (same r r' && true)))))) && true)
      rw [Bool.and_true, Bool.and_true]
    · rw [List.all_cons, List.length_cons, List.length_cons]
      have e : (zs.length + 1 == zs'.length + 1) = (zs.length == zs'.length) := Bool.eq_iff_iff.mpr (by simp)
      rw [e, Bool.and_assoc, k2]
      show ((same c c' && (same s s' && (same m m' && (same op op' && (same ns ns' && same r r'))))) && same os os') = true ↔ _
      simp only [Bool.and_eq_true, same_iff, Ofs.cons.injEq, and_assoc]
theorem zip_parts {p q : Pr} {xs ys : List V} (hk : p.kind = q.kind) (hd : p.depth ≤ (d : Int) + 1) (h : PartsAt C H xs p) (g : PartsAt C H ys q) : ∃ bs, ZipB (CPt C d) xs ys bs H ∧ (bs.all id && (xs.length == ys.length)) = same p q := by
  have ht : p.tag = q.tag := by rw [← tag_kind, ← tag_kind, hk]
  cases p with
  | choice os =>
    cases q with
    | choice qs =>
      rw [Pr.depth] at hd
      obtain ⟨bs, k1, k2⟩ := zip_ofs (C := C) (d := d) (H := H) (by omega) h g
      exact ⟨bs, k1, by rw [k2]; exact same_is (by rw [same_iff, Pr.choice.injEq])⟩
    | new _ _ _ => exact absurd ht (by show ¬ 0 = 1; decide)
    | cond _ _ _ _ => exact absurd ht (by show ¬ 0 = 2; decide)
    | call _ _ => exact absurd ht (by show ¬ 0 = 3; decide)
  | new n k r =>
    cases q with
    | new n' k' r' =>
      rw [Pr.depth] at hd
      obtain ⟨b, rfl, hb⟩ := h
      obtain ⟨b', rfl, hb'⟩ := g
      refine ⟨[same n n', same k k', same r r'], ⟨.inl (bf_it bf_str), .inl (bf_it bf_int), .inl (bi_pr (by omega) hb hb'), trivial⟩, same_is ?_⟩
      show ((same n n' && (same k k' && (same r r' && true))) && true) = true ↔ _
      simp only [Bool.and_eq_true, same_iff, Pr.new.injEq, and_true]
    | choice _ => exact absurd ht (by show ¬ 1 = 0; decide)
    | cond _ _ _ _ => exact absurd ht (by show ¬ 1 = 2; decide)
    | call _ _ => exact absurd ht (by show ¬ 1 = 3; decide)
  | cond l r y n =>
    cases q with
    | cond l' r' y' n' =>
      rw [Pr.depth] at hd
      obtain ⟨b, c, rfl, hb, hc⟩ := h
      obtain ⟨b', c', rfl, hb', hc'⟩ := g
      refine ⟨[same l l', same r r', same y y', same n n'], ⟨.inl (bf_it bf_opd), .inl (bf_it bf_opd), .inl (bi_pr (by omega) hb hb'), .inl (bi_pr (by omega) hc hc'), trivial⟩, same_is ?_⟩
      show ((same l l' && (same r r' && (same y y' && (same n n' && true)))) && true) = true ↔ _
      simp only [Bool.and_eq_true, same_iff, Pr.cond.injEq, and_true]
    | choice _ => exact absurd ht (by show ¬ 2 = 0; decide)
    | new _ _ _ => exact absurd ht (by show ¬ 2 = 1; decide)
    | call _ _ => exact absurd ht (by show ¬ 2 = 3; decide)
  | call n ops =>
    cases q with
    | call n' ops' =>
      obtain ⟨u, rfl, hu⟩ := h
      obtain ⟨u', rfl, hu'⟩ := g
      refine ⟨[same n n', same ops ops'], ⟨.inl (bf_it bf_str), .inl (bt_tup (fun _ _ => bf_opd) hu hu'), trivial⟩, same_is ?_⟩
      show ((same n n' && (same ops ops' && true)) && true) = true ↔ _
      simp only [Bool.and_eq_true, same_iff, Pr.call.injEq, and_true]
    | choice _ => exact absurd ht (by show ¬ 3 = 0; decide)
    | new _ _ _ => exact absurd ht (by show ¬ 3 = 1; decide)
    | cond _ _ _ _ => exact absurd ht (by show ¬ 3 = 2; decide)
end
section
variable {P : Program} {w : World} {K : PySem.W.Frag} {mg : Str → Option Value} {base : Heap} {C CB : Addr}
theorem scEqB : FnScope ["self", "other"] ["self", "other"] (defScope (inClass (topS 30) 6)) := ⟨rfl, rfl, rfl, by decide +kernel, rfl, by decide +kernel, by decide +kernel⟩
theorem eqB_pt {X : Cx} {f : Addr} {fd : FuncData} {d n : Nat} {E : XK} (hn : 1 ≤ n) (ih : FnOk X.prog X.w X.K X.mg X.base CX0 n f fd ["self", "other"] (spEqB (RPrB C d))) (at_ : PySem.W.findIn X.K (.ref C) "__eq__" = some (some (.ref f))) (fn : PySem.W.isFn X.K (.ref f) = true) (hb : Binds X.K fd ["self", "other"] []) (hx : Passes CX0 X E) : EqB X (n + 1) (CPt C d) := by
  have sf : SelfB (CIt C d) := (self_flat.or (self_tup self_flat)).or (self_ins fun a b H h => h.self)
  have e1 : EqB X 1 (CTup CFlat) := (rcB_tup monB_flat eqB_flat).eqB (fun _ _ _ _ ⟨a, c, _, _, _, hx, hy, _⟩ => ⟨a, c, hx, hy⟩) (self_tup self_flat)
  have e2 : EqB X n (CIns C (RPrB C d)) := (rcB_ins ih at_ fn hb hx).eqB (fun _ _ _ _ ⟨a, c, _, _, _, _, hx, hy, _⟩ => ⟨a, c, hx, hy⟩) (self_ins fun a b H h => h.self)
  have e3 : EqB X n (CIt C d) := ((eqB_flat.mono (Nat.zero_le _)).or (e1.mono hn)).or e2
  exact (e3.mono (Nat.le_succ _)).or ((rcB_tup mon_itB e3).eqB (fun _ _ _ _ ⟨a, c, _, _, _, hx, hy, _⟩ => ⟨a, c, hx, hy⟩) (self_tup sf))
theorem ok_eqB {f : Addr} {fd : FuncData} (F : Fun K "__eq__" "Process.__eq__" (inClass (topS 30) 6) f fd) (hi : mg "isinstance" = none) (T : TerT K mg C CB) (at_ : PySem.W.findIn K (.ref C) "__eq__" = some (some (.ref f))) (fn : PySem.W.isFn K (.ref f) = true) (hb : Binds K fd ["self", "other"] []) : ∀ d : Nat, FnOk P w K mg base CX0 (2 + 3 * d) f fd ["self", "other"] (spEqB (RPrB C d))
  | 0 => by
    refine F.ok scEqB (fun vs H Q E h => ?_) (fun cdv A outer s H vs Q E hr h => ?_)
    · obtain ⟨a, c, b, rfl, _⟩ := h
      rfl
    · obtain ⟨a, c, b, rfl, ⟨p, q, hp, _⟩, _⟩ := h
      have := Pr.depth_pos p
      exact absurd hp (by omega)
  | d + 1 => by
    have ih := ok_eqB F hi T at_ fn hb d
    have ek : 2 + 3 * (d + 1) = 2 + 3 * d + 2 + 1 := by omega
    rw [ek]
    refine F.ok scEqB (fun vs H Q E h => ?_) (fun cdv A outer s H vs Q E hr h => ?_)
    · obtain ⟨a, c, b, rfl, _⟩ := h
      rfl
    · obtain ⟨a, c, b, rfl, ⟨p, q, hp, ha, hc, hbb⟩, k⟩ := h
      refine ⟨_, pss_one (ps_ret (pe_and (pe_callB (id := "isinstance") (r := rIsi K) call_isi (by rfl) hi (by decide +kernel) (pa_cons (pv 1) (pa_cons (pe_glob (v := .ref C) (by rfl) T.mgC rfl) pa_nil)))
        (pe_and (pe_cmpR op_eq (pe_fld (pv 0) rfl) (pe_fld (pv 1) rfl) (nomark _))
          (pe_one (pe_cmpR (op_eqB (n := 2 + 3 * d + 1 + 1) (D := CTup (CPt C d)) (rcB_tup mon_ptB (eqB_pt (C := C) (d := d) (by omega) ih at_ fn hb pass0)) (hr.mono (by omega))) (pe_fld (pv 0) rfl) (pe_fld (pv 1) rfl) (nomark _)))))), ?_⟩
      obtain ⟨t, xs, ⟨dx, h1⟩, h2, h3⟩ := ha.out
      obtain ⟨t', ys, ⟨dy, g1⟩, g2, g3⟩ := hc.out
      have hkb : decide (V.str p.kind = V.str q.kind) = true ↔ p.kind = q.kind := by rw [decide_eq_true_eq]; exact ⟨fun z => by injection z, fun z => by rw [z]⟩
      refine s_ret (v := .bl b) (ev_is (ev_andV (a := true) (b := decide (V.str p.kind = V.str q.kind) && same p q) (ev_cb (ea_cons (ev_var rfl) (ea_cons ev_c ea_nil)) (rc_isiOwn (tyx_pr T hc) kOwn)) (fun _ => ev_andV (a := decide (V.str p.kind = V.str q.kind)) (b := same p q) (ev_op (ev_fld (ev_var rfl) h1 T.cl T.nK pf_kind) (ev_fld (ev_var rfl) g1 T.cl T.nK pf_kind) (rv_eq rfl)) (fun hk => ?_))) ?_) k
      · refine ev_op (ev_fld (ev_var rfl) h1 T.cl T.nP pf_parts) (ev_fld (ev_var rfl) g1 T.cl T.nP pf_parts) (fun H1 e1 Q' q' => ?_)
        obtain ⟨bs, z1, z2⟩ := zip_parts (C := C) (d := d) (H := H1) (hkb.mp hk) (by omega) (h3.ex e1) (g3.ex e1)
        exact ⟨same p q, ⟨t, t', xs, ys, bs, rfl, rfl, e1 _ _ h2, e1 _ _ g2, z1, z2.symm⟩, fun H2 e2 => q' H2 e2⟩
      · rw [hbb, Bool.true_and]
        refine congrArg V.bl (Bool.eq_iff_iff.mpr ?_)
        rw [Bool.and_eq_true, hkb, same_iff]
        exact ⟨fun z => z.2, fun z => ⟨by rw [z], z⟩⟩
end
end Fs

set_option Elab.async false
set_option linter.all false
set_option maxRecDepth 100000
set_option maxHeartbeats 2000000
/-! a == b of instances of one own class, both answers; a op i, i an int. -/
namespace FsR
open PySem PySem.Spec PyProof.Rows L2 Evl
structure EqM (K : PySem.W.Frag) (C : Addr) (g : Addr) : Prop where
  at_ : PySem.W.findIn K (.ref C) "__eq__" = some (some (.ref g))
  fn : PySem.W.isFn K (.ref g) = true
/-- a == b -/
def rOwnEq (C : Addr) (sp : Sp) (E : XK) : R2 := fun x y H Q => ∃ (a b dx dy : Addr) (fs gs : List (Str × V)), x = .ref a ∧ y = .ref b ∧ H a = some (.ins C dx fs) ∧ H b = some (.ins C dy gs) ∧ sp [.ref a, .ref b] H Q E
theorem op_ownEq {X : Cx} {CX : CXT} {k : Nat} {C g : Addr} {fd : FuncData} {ps : List Str} {sp : Sp} {E : XK} (M : EqM X.K C g) (F : FnOk X.prog X.w X.K X.mg X.base CX k g fd ps sp) (hr : Room k X.A) (hd : Binds X.K fd ps []) (hx : ∀ σ, PassesAt CX X σ E) : OpR X (compareOp .Eq) (rOwnEq C sp E) := by
  intro pins s σ H x y v u Q I rx ry h
  obtain ⟨a, b, dx, dy, fs, gs, rfl, rfl, h1, h2, q⟩ := h
  obtain rfl : v = Value.ref a := rx
  obtain rfl : u = Value.ref b := ry
  obtain ⟨_, O1, _, _, _, _⟩ := ins_get I.hok h1
  obtain ⟨_, O2, _, _, _, _⟩ := ins_get I.hok h2
  obtain ⟨_, i1, _⟩ := O1.look
  obtain ⟨_, i2, _⟩ := O2.look
  obtain ⟨m, fr⟩ := I.fr
  show wpAny _ _ (richCompare .Eq _ _) _ _ _
  refine PySem.W.cmp_K (op := .Eq) (tb := .ref C) hr.units0 fr I.ok.mod.kin i1 i2.type (by unfold PySem.W.notFirst; rw [beq_self_eq_true, Bool.true_or]) M.at_ M.fn ?_
  refine wpAny_mono (run_fnS (E := fun _ => E) (us := [.ref a, .ref b]) (vs := [.ref a, .ref b]) F hr hd (hx σ) I (.cons rfl (.cons rfl .nil)) q) (fun w s' hw => ?_) fun _ _ z => z
  obtain ⟨y, H', J, r, q'⟩ := hw
  have fin : EP X pins σ Q w s' := ⟨y, H', J, r, q'⟩
  cases w with
  | notImplemented => exact no_notimpl r
  | _ => exact fin
structure OpI (K : PySem.W.Frag) (C : Addr) (op : Operator) (g : Addr) : Prop where
  fst : PySem.W.selfFirst K C = true
  at_ : PySem.W.findIn K (.ref C) (PySem.dunder op.info.2) = some (some (.ref g))
  fn : PySem.W.isFn K (.ref g) = true
  rv : PySem.W.findIn K (.ref C) (dunderR op.info.2) = some none
  h1 : ∃ fo, PySem.W.findIn K (.type "int") (PySem.dunder op.info.2) = some fo
  h2 : ∃ ro, PySem.W.findIn K (.type "int") (dunderR op.info.2) = some ro
  sub : PySem.W.subIn K (.type "int") (.ref C) = some false
/-- a op i -/
def tOwnI (C : Addr) (sp : Sp) (E : L2.St → XK) (ta tb : TE) : TE := fun σ H Q => ta σ H fun x H1 => tb σ H1 fun y H2 => ∃ (a dx : Addr) (fs : List (Str × V)) (i : Int), x = .ref a ∧ y = .int i ∧ H2 a = some (.ins C dx fs) ∧ sp [.ref a, .int i] H2 Q (E σ)
theorem pe_ownI {X : Cx} {CX : CXT} {k : Nat} {C g : Addr} {fd : FuncData} {ps : List Str} {sp : Sp} {E : L2.St → XK} {ea eb : Expr} {op : Operator} {pos : Pos} {ta tb : TE} (ha : PE X ea ta) (hb : PE X eb tb) (M : OpI X.K C op g) (F : FnOk X.prog X.w X.K X.mg X.base CX k g fd ps sp) (hr : Room k X.A) (hd : Binds X.K fd ps [])
    (hx : ∀ σ, PassesAt CX X σ (E σ)) : PE X (.BinOp ea op eb pos) (tOwnI C sp E ta tb) := by
  refine ⟨fun pins s σ H Q I h => wpAny_BinOp (binT ha hb I h fun v u s2 x y H2 I2 rx ry q => ?_)⟩
  obtain ⟨a, dx, fs, i, rfl, rfl, h1, q⟩ := q
  obtain rfl : v = Value.ref a := rx
  obtain ⟨t, rfl⟩ := ry
  obtain ⟨_, O1, _, _, _, _⟩ := ins_get I2.hok h1
  obtain ⟨_, i1, _⟩ := O1.look
  obtain ⟨m, fr⟩ := I2.fr
  obtain ⟨fo, hfo⟩ := M.h1
  obtain ⟨ro, hro⟩ := M.h2
  refine PySem.W.ksp_binT fr I2.ok.mod.kin i1 (T := "int") rfl M.fst M.at_ M.fn M.rv (.inl rfl) hfo hro M.sub (wpAny_mono (run_fnS (us := [.ref a, .int i t]) (vs := [.ref a, .int i]) F hr hd (hx σ) I2 (.cons rfl (.cons ⟨t, rfl⟩ .nil)) q) (fun w s' hw => ?_) fun _ _ z => z)
  obtain ⟨y, H', J, r, q'⟩ := hw
  have fin : EP X pins σ Q w s' := ⟨y, H', J, r, q'⟩
  cases w with
  | notImplemented => exact no_notimpl r
  | _ => exact fin
end FsR

set_option Elab.async false
set_option linter.all false
set_option maxRecDepth 100000
set_option maxHeartbeats 8000000
/-! the law: processes read back -/
namespace Fs
open PySem L2 Evl FsE FsC FsR FsT FsK FsP FsQ
section
variable {σ : L2.St} {H : Hp} {ta tb : TE} {C : Addr} {E : L2.St → XK}
theorem cinsR {d : Nat} {a b : Addr} {p q : Pr} (ha : PrAt C H a p) (hb : PrAt C H b q) (hd : p.depth ≤ (d : Int)) : CIns C (RPrB C d) (.ref a) (.ref b) (same p q) H := by
  obtain ⟨t, xs, ⟨dx, h1⟩, _⟩ := ha.out
  obtain ⟨t', ys, ⟨dy, h2⟩, _⟩ := hb.out
  exact ⟨a, b, dx, dy, _, _, rfl, rfl, h1, h2, p, q, hd, ha, hb, rfl⟩
theorem es_prd {d : Nat} {p : Pr} (h : Ev ta σ H (.str (txP p))) (al : AlP p) (hd : p.depth ≤ (d : Int)) (h20 : p.depth ≤ 20) (hs : p.size ≤ 100) : EvS (tCallS (spPRd C d) E (tCons ta tNil)) σ H (fun v H' => ∃ c, v = .ref c ∧ PrAt C H' c p) := fun H1 e1 Q q =>
  h H1 e1 _ fun H2 e2 => ⟨p, rfl, al, hd, h20, hs, fun c H3 _ e3 hc => q (.ref c) H3 (e2.trans e3) ⟨c, rfl, hc⟩⟩
/-- it is equal to what is made of the same term -/
theorem ev_eqMade {d : Nat} {a t : Addr} {p : Pr} (h1 : Ev ta σ H (.ref a)) (h2 : Ev tb σ H (.ref t)) (ha : PrAt C H a p) (ht : TrAt H t p) (al : AlP p) (hd : p.depth ≤ (d : Int)) (h20 : d ≤ 20) (hs : p.size ≤ 400) : Ev (tOp (rEqB (CIns C (RPrB C d))) ta (tCallS (spMade C d) E (tCons tb tNil))) σ H (.bl true) := fun H1 e1 Q k =>
  h1 H1 e1 _ fun H2 e2 => h2 H2 (e1.trans e2) _ fun H3 e3 => by
    have x3 := (e1.trans e2).trans e3
    exact ⟨t, p, rfl, ht.ex x3, al, hd, h20, hs, fun c H4 _ e4 hc => ⟨same p p, cinsR (ha.ex (x3.trans e4)) hc hd, fun H5 e5 => by rw [same_self]; exact k H5 ((e2.trans e3).trans (e4.trans e5))⟩⟩
end
section
variable {P : Program} {w : World} {K : PySem.W.Frag} {mg : Str → Option Value} {base : Heap} {C CB : Addr}
abbrev nsLawR : List Str := ["_law_script", "_law_k", "_law_term_here", "_law_text", "_law_found"]
theorem scLawR : FnScope nsLawR ["_law_script"] (defScope (topS 61)) := ⟨rfl, rfl, rfl, by decide +kernel, rfl, by decide +kernel, by decide +kernel⟩
theorem ok_law {f fq : Addr} {fd fdq : FuncData} {k kp : Nat} (hk : 14 ≤ k) (hkp : kp ≤ k) (F : Fun K "law" "law" (topS 61) f fd) (L : LawT K mg) (GC : CalX P w K mg base CX0 1 "_law_cell_at" (spCellAt K)) (GR : CalX P w K mg base CX0 2 "_law_row" spRow) (GT : CalX P w K mg base CX0 8 "_law_term" (spTerm 4)) (GM : CalX P w K mg base CX0 10 "_law_made" (spMade C 4)) (GX : CalX P w K mg base CX0 14 "process_text" (spTX C 4)) (GL : CalX P w K mg base CX0 5 "_law_process_text" (spLT 4))
    (GP : CalX P w K mg base CX0 kp "process_read" (spPRd C 4)) (GS : CalX P w K mg base CX0 12 "_law_same" (spSm C 4)) (MQ : EqM K C fq) (FQ : FnOk P w K mg base CX0 14 fq fdq ["self", "other"] (spEqB (RPrB C 4))) (BQ : Binds K fdq ["self", "other"] []) :
    FnOk P w K mg base CX0 (k + 1) f fd ["_law_script"] (spLaw K) := by
  refine F.ok scLawR (fun vs H Q E h => ?_) (fun cdv A outer s H vs Q E hr h => ?_)
  · obtain ⟨a, ns, rfl, _⟩ := h
    rfl
  · obtain ⟨a, ns, rfl, hS, q⟩ := h
    refine ⟨_, pss_cons (ps_for PassesOwn.never rfl (pi_range1 rfl L.range (pa_cons pe_int pa_nil)) (pg_name (i := 1) scLawR.nd rfl (Or.inl rfl))
        (pss_cons (ps_set (i := 2) scLawR.nd rfl (Or.inl rfl) (pe_cx (E := fun _ => E0) GT hr (by omega) (by rfl) at0 (pa_cons (pe_cx (E := fun _ => E0) GR hr (by omega) (by rfl) at0 (pa_cons (pe_cx (E := fun _ => E0) GC hr (by omega) (by rfl) at0 (pa_cons (pv 0) (pa_cons (pv 1) pa_nil))) (pa_cons pe_int pa_nil))) (pa_cons pe_int pa_nil))))
        (pss_cons (ps_set (i := 3) scLawR.nd rfl (Or.inl rfl) (pe_cx (E := fun _ => E0) GL hr (by omega) (by rfl) at0 (pa_cons (pv 2) pa_nil)))
        (pss_cons (ps_set (i := 4) scLawR.nd rfl (Or.inl rfl) (pe_cx (E := fun _ => E0) GP hr hkp (by rfl) at0 (pa_cons (pv 3) pa_nil)))
        (pss_one (ps_if (PW.pt (pw_or (pt_not (pt_val (pe_cx (E := fun _ => E0) GS hr (by omega) (by rfl) at0 (pa_cons (pv 4) (pa_cons (pv 2) pa_nil)))))
            (pw_or (pt_not (pt_cmpR (op_eqB (n := 14) (D := CIns C (RPrB C 4)) (rcB_ins FQ MQ.at_ MQ.fn BQ pass0) (hr.mono hk)) (pv 4) (pe_cx (E := fun _ => E0) GM hr (by omega) (by rfl) at0 (pa_cons (pv 2) pa_nil)) (nomark _)))
            (pw_or1 (pt_cmpR op_ne (pe_cx (E := fun _ => E0) GX hr hk (by rfl) at0 (pa_cons (pv 4) pa_nil)) (pv 3) (nomark _)))))) (pss_one (ps_ret pe_bl)) pss_nil))))))
      (pss_one (ps_ret pe_bl)), ?_⟩
    refine q_forR1 (n := 2) (ea_cons ev_c ea_nil) (by decide) (fun i σ' H' => ∃ (v1 v2 v3 v4 : Option V), σ' = [some (.ref a), v1, v2, v3, v4] ∧ Ex H H') (fun H1 e1 => ⟨_, _, _, _, rfl, e1⟩) (fun i σ' H' hi ⟨v1, v2, v3, v4, hσ, he⟩ => ?_) (fun σ' H' ⟨v1, v2, v3, v4, hσ, he⟩ => ?_)
    · subst hσ
      refine ⟨_, rfl, _, rfl, a, ns, i, rfl, ex_l he hS, fun c H1 e1 => ⟨c, 135, rfl, by decide, fun row hrow hok rl H2 hrl e2 h2 => ⟨rl, row, 0, rfl, h2, hok, hrow, by decide, by decide, by decide, by decide, fun t p H3 ht e3 htr hp => ?_⟩⟩⟩
      have hd := hp.dep
      have s4 : szB 4 = 22 := rfl
      have hs : p.size ≤ 22 := hp.siz
      have x3 := ((he.trans e1).trans e2).trans e3
      refine q_asg (v := .str (txP p)) (ev_lt (E := fun _ => E0) (d := 4) (ea_cons (ev_var rfl) ea_nil) htr hp.al hd (by omega)) (fun H4 e4 => ?_)
      have htr4 := htr.ex e4
      refine q_asgS (es_prd (E := fun _ => E0) (d := 4) (ev_var rfl) hp.al hd (by omega) (by omega)) (fun v H5 e5 ⟨b, hv, hpb⟩ => ?_)
      subst hv
      have htr5 := htr4.ex e5
      have x5 := (x3.trans e4).trans e5
      refine s_when (b := false) (et_is (et_or (a := false) (b := false) (et_is (et_not (et_B (ev_cx (ea_cons (ev_var rfl) (ea_cons (ev_var rfl) ea_nil)) (fun H6 e6 Q6 q6 E6 => ⟨b, t, p, rfl, hpb.ex e6, htr5.ex e6, hp.al, hd, q6⟩)))) rfl)
        (fun _ => et_is (et_or (a := false) (b := false) (et_is (et_not (et_test (ev_eqMade (ev_var rfl) (ev_var rfl) hpb htr5 hp.al hd (by decide) (by omega)))) rfl)
          (fun _ => et_is (et_test (ev_op (x := .str (txP p)) (y := .str (txP p)) (ev_cx (ea_cons (ev_var rfl) ea_nil) (fun H6 e6 Q6 q6 E6 => ⟨b, p, rfl, hpb.ex e6, hp.al, hd, by omega, q6⟩)) (ev_var rfl) (rv_ne rfl))) (by rw [decide_eq_true rfl]; rfl))) rfl)) rfl) (fun hb => nomatch hb) (fun _ H6 e6 => ⟨_, _, _, _, rfl, x5.trans e6⟩)
    · subst hσ
      exact s_ret ev_c (fun H6 e6 => q H6)
end
end Fs

set_option Elab.async false
set_option linter.all false
set_option maxRecDepth 100000
set_option maxHeartbeats 4000000
/-! An own error over ValueError, by a class between: its __init__ calls super().__init__ with a fixed text, then stores its one argument as the field field. -/
namespace FsB
open PySem PySem.W PySem.Calls PyProof.Rows PySem.HandSPX
abbrev eS : Scope := { kind := .function, names := [(PySem.Str.ofString "self", .local), (PySem.Str.ofString "field", .local), (PySem.Str.ofString "__class__", .free), (PySem.Str.ofString "super", .globalImplicit)], isGenerator := false, isCoroutine := false, more := [] }
abbrev eA (p1 p2 : Pos) : Arguments := { posonlyargs := [], args := [{ arg := "self", annotation := none, pos := p1 }, { arg := "field", annotation := none, pos := p2 }], vararg := none, kwonlyargs := [], kw_defaults := [], kwarg := none, defaults := [] }
abbrev eB (msg : Expr) (p0 p1 p2 p3 p4 p5 p6 p7 p8 : Pos) : List Stmt := [.Expr (.Call (.Attribute (.Call (.Name "super" p0) [] [] p1) "__init__" p2) [msg] [] p3) p4, .Assign [.Attribute (.Name "self" p5) "field" p6] (.Name "field" p7) p8]
/-- the message -/
abbrev eM (z : Str) (q0 : Pos) : Expr := .Constant (.str z) 0 q0
abbrev mroVE : List Value := [.type "ValueError", .type "Exception", .type "BaseException", .type "object"]
/-- what the written part says of the class at C, and of its __init__, at fI -/
structure ErrTxt (prog : Program) (K : Frag) (mg : Str → Option Value) (x : Str) (C fI : Addr) : Prop where
  gC : mg x = some (.ref C)
  cls : ∃ nm q N bs bm sn sub ab col dd k0 k1 k2 k3 k5, K.lookup C = some (excClassObj nm q C N bs bm true sn sub ab col dd k0 k1 k2 k3 k5 "ValueError.__new__") ∧ refsVE bm = true
  ei : excInitIn K C mroVE "ValueError.__new__" = true
  sa : findIn K (.ref C) "__setattr__" = some (some (.builtin "object.__setattr__"))
  noN : findIn K (.ref C) "field" = some none
  iC : findIn K (.ref C) "__init__" = some (some (.ref fI))
  tC : typeIn K (.ref fI) = some (.type "function")
  kC : keepIn K (.ref C) = true
  exC : subIn K (.ref C) (.type "BaseException") = some true
  veC : subIn K (.ref C) (.type "ValueError") = some true
  tyC : typeIn K (.ref C) = some (.type "type")
  slf : mroIn K C (.ref C) = some true
  sup : ks_superIn K C C "__init__" = some (some (.builtin "ValueError.__init__"))
  opq : nsIn K cStatics "thirdparty.any" = some none
  gs : mg "super" = none
  top : (prog.main.scope.names.lookup ("super" : Str)).isSome = false
  fn : ∃ (oc : Value) (od an : Option Addr) (kV doc pm ct : Value) (osl : Array (Option Value)) (qual : Str) (cda cc : Addr) (ccl cl : Value) (cdd cld : Option Addr) (ccs csl : Array (Option Value)) (vs : Array Value) (file : Str) (tf : Tok) (zM : Str) (p1 p2 q0 r0 r1 r2 r3 r4 r5 r6 r7 r8 : Pos),
    K.lookup fI = some ⟨oc, od, .func (ksFn "__init__" qual (eA p1 p2) (eB (eM zM q0) r0 r1 r2 r3 r4 r5 r6 r7 r8) eS .none kV doc pm an (.ref cda) ct cc), osl⟩ ∧ codeIn K (.ref cda) qual = true ∧
    K.lookup cda = some ⟨ccl, cdd, .fields vs, ccs⟩ ∧ vs[2]? = some (.str file tf) ∧ ((prog.main.file : Str) == file) = true ∧ K.lookup cc = some ⟨cl, cld, .cell (some (.ref C)), csl⟩ ∧ zM.length ≤ 1000 ∧ (r2.endLine == r3.line) = true
theorem call_line {o : Expr} {name : Str} {apos pos : Pos} {a : Expr} {env : Env} (hp : (apos.endLine == pos.line) = true) (hs : starEach [a] env = (false, eval a env) :: starEach [] env) : eval (.Call (.Attribute o name apos) [a] [] pos) env = (do
      let ov ← attributeBase o name env (eval o env)
      standAt apos.atName
      let (f, first) ← holding [ov] (getMethod ov name (do return (← importBound o env).getD true))
      callWith pos f first (backTo pos (starEach [a] env)) []) := by
  show (do
      let ov ← attributeBase o name env (eval o env)
      standAt apos.atName
      methodCall o name apos pos env ov 1 (backTo pos (starEach [a] env)) []) = _
  have e : methodCallForm 1 (backTo pos (starEach [a] env)) [] = true := by
    rw [hs]
    rfl
  unfold methodCall
  rw [e]
  unfold methodCallPos calleeOf
  rw [hp]
  simp only [Bool.not_true, Bool.false_or, if_true, pure_bind]
/-- what __init__ leaves of a fresh exception at x, over the heap h -/
structure BtEnd (h h' : Heap) (x C dx t1 : Addr) (v : Value) : Prop where
  keep : ∀ b o, h.get? b = some o → h'.get? b = some o
  obj : h'.get? x = some { cls := .ref C, dict := some dx, data := .fields #[.ref t1, .none, .none, .none, .bool false, .none] }
  dbig : h.objs.size ≤ dx
  dne : dx ≠ x
  ns : h'.Ns1 dx (fun y => if y = "field" then some v else none)
theorem str_len2 (a b : Str) : (a ++ b).length = a.length + b.length := by
  show (a.cps ++ b.cps).size = _
  rw [Array.size_append]
  rfl
theorem len1 (v : Value) : [v].length ≤ sizeLine := by
  rw [sizeLine_eq]
  exact (by decide : 1 ≤ 16777216)
section
variable {prog : Program} {w : World} {A : Around} {E : Value → Shared → Prop} {R : Result → Shared → Prop} {s : Shared} {K : Frag} {mg : Str → Option Value} {x0 : Str} {C fI : Addr}
theorem bt_init (T : ErrTxt prog K mg x0 C fI) {hp : Heap} {x t0 : Addr} {v : Value} (X : K.In hp) (G : hp.Ns mainGlobals mg) (Bl : ∃ mb, hp.Ns builtinsNs mb ∧ mb "super" = some (.type "super")) (hlim : s.heap.NoLimit)
    (k : ∀ b o, hp.get? b = some o → s.heap.get? b = some o) (hsz : hp.objs.size ≤ s.heap.objs.size) (hx : s.heap.get? x = some (excO C t0)) (hxn : hp.get? x = none) (hroom : A.depth < recursionLimit)
    (hq : ∀ h' tk' dx t1, BtEnd hp h' x C dx t1 v → R (.ok (.ret .none)) { s with heap := h', toks := tk' }) :
    codeAny (model prog w) A (.call (.ref fI) ⟨[.ref x, v], []⟩) R s := by
  obtain ⟨oc, od, an, kV, doc, pm, ct, osl, qual, cda, cc, ccl, cl, cdd, cld, ccs, csl, vs, file, tf, zM, p1, p2, q0, r0, r1, r2, r3, r4, r5, r6, r7, r8, ho, hcd, hcode, hvs, hfile, hcell, hM, hline⟩ := T.fn
  obtain ⟨nm, q, N, bs, bm, sn, sub, ab, col, dd, k0, k1, k2, k3, k5, hC, hbm⟩ := T.cls
  obtain ⟨mb, hb, hmb⟩ := Bl
  have hcl : clsIn K C = some { name := nm, bases := bs, mro := .ref C :: bm, ns := N, qualname := q, hasDict := true, slotNames := sn, subclasses := sub, abstract := ab, collection := col, hasDel := false } := by unfold clsIn; rw [hC] <;> rfl
  have Xs : K.In s.heap := X.keeps k
  have noc : ∀ y ∈ eS.names, y.2 ≠ .cell := by decide +kernel
  have locs : ∀ y ∈ [(("self" : Str), Value.ref x), ("field", v)], eS.names.lookup y.1 = some .local := fun y hy => by
    rcases List.mem_cons.mp hy with rfl | hy
    · rfl
    · rw [List.mem_singleton.mp hy]
      rfl
  refine ks_codeAny_call_defAt (body := eB (eM zM q0) r0 r1 r2 r3 r4 r5 r6 r7 r8) (binds := [("self", .ref x), ("field", v)]) hroom (Xs _ _ ho) rfl hlim (codeRec_of Xs hcd) rfl (BindsTo.of_eq (by first | rfl | with_unfolding_all rfl)) noc locs (fun h₁ hns hk₁ => ?_) rfl rfl rfl
  have Fr1 : Fr hp s.heap.objs.size h₁ (fun y => [(("self" : Str), Value.ref x), ("field", v)].reverse.lookup y) := ⟨hns, fun b o e => hk₁ b o (k b o e), hsz⟩
  have N1 : News hp s.heap.objs.size h₁ [(x, excObj C t0 none .none)] := fun p hp' => by
    rw [List.mem_singleton.mp hp']
    exact ⟨hk₁ _ _ hx, Nat.ne_of_lt (Heap.lt_size hx), hxn⟩
  show _root_.PySem.wpAt (model prog w) _ (.func _ (ksEnv qual eS s.heap.objs.size fI (.ref cda) cc)) (execs (eB (eM zM q0) r0 r1 r2 r3 r4 r5 r6 r7 r8) (ksEnv qual eS s.heap.objs.size fI (.ref cda) cc)) _ _ _
  refine ks_wpAt_execs_cons (ks_wpAt_Expr_any (ks_wpAt_MethodCall ?_ (call_line hline rfl)))
  generalize hE : (fun e s' => wpAny (model prog w) _ (leaving _ e) (fun x s'' => R (Except.error e) s'') (fun e' s'' => R (Except.error e') s'') s') = EE
  have X1 : K.In h₁ := X.keeps Fr1.keep
  -- super()
  refine ks_wpAt_super_base (env := ksEnv qual eS s.heap.objs.size fI (.ref cda) cc) rfl rfl rfl rfl (X1 _ _ ho) rfl rfl rfl (X1 _ _ hcode) rfl hvs hfile T.top ?_
  refine ks_loadName_global rfl rfl (loadGlobal_builtin (env := ksEnv qual eS s.heap.objs.size fI (.ref cda) cc) (G.keeps Fr1.keep) T.gs (hb.keeps Fr1.keep) hmb ⟨rfl, ?_⟩)
  refine wpAny_loadName_free rfl rfl rfl ⟨_, X1 _ _ hcell, rfl⟩ ?_
  refine wpAny_loadName_local (v := .ref x) rfl rfl hns rfl ?_
  refine ks_wpAny_isType_cls (X1 _ _ hC) rfl ⟨rfl, ?_⟩
  refine ks_wpAny_call_super (X1 _ _ hC) rfl (hk₁ _ _ hx) rfl (fun c z => by cases z) (looks_mroIn X1 T.slf) (fun h2 hso k2 => ?_)
  obtain ⟨F2, N2, l2⟩ := ks_newsPush (s := ⟨h₁, s.gens, s.drawn, s.toks + 2, s.os⟩) Fr1 N1 rfl hso k2
  -- its __init__, bound
  refine kxs_method kxs_ValueError F2 X N2 (List.mem_cons_self ..) (InstAt.of_exc0 (c2 := .none) (t := t0) N2 (List.mem_cons_of_mem _ (List.mem_cons_self ..))) T.opq T.sup T.veC rfl (fun u h3 F3 N3 l3 => ?_)
  refine kxs_callWith1 N3 (List.mem_cons_self ..) ?_ rfl rfl
  refine Calls.spliced_cons ?_
  show wpAny _ _ (eval (eM zM q0) (ksEnv qual eS s.heap.objs.size fI (.ref cda) cc)) _ _ _
  refine Calls.Constant_str ?_
  refine Calls.spliced_nil ⟨kxs_at N3 (List.mem_cons_self ..), ?_⟩
  have nx1 : h₁.objs.size ≠ x := fun z => Nat.lt_irrefl _ (z ▸ l2 _ (List.mem_cons_self ..) : x < x)
  have nx2 : u ≠ x := fun z => Nat.lt_irrefl _ (z ▸ l3 _ (List.mem_cons_of_mem _ (List.mem_cons_self ..)) : x < x)
  refine kxs_call F3 X N3 PySem.F.excBase_ValueError T.ei (List.mem_cons_self ..) (.tail nx2 (.tail nx1 (.head fun p hp' => by cases hp'))) (len1 _) (fun t' h4 F4 N4 l4 => ?_)
  -- self.field = field
  have X4 : K.In h4 := X.keeps F4.keep
  have hx4 : h4.get? x = some (excO C t') := (N4 (x, excObj C t' none .none) (List.mem_cons_of_mem _ (List.mem_cons_of_mem _ (List.mem_cons_of_mem _ (List.mem_cons_self ..))))).1
  refine wpAt_of_wpAny (wpAny_execs_cons (plainObj_wpAny_Assign_Attribute ?_))
  refine wpAny_Name (wpAny_loadName_local (v := v) rfl rfl F4.ns rfl ?_) rfl
  refine wpAny_Name (wpAny_loadName_local (v := .ref x) rfl rfl F4.ns rfl ?_) rfl
  refine set_plain X4 (ox := excO C t') (od := none) ⟨hx4, rfl, rfl, trivial⟩ T.sa ?_
  refine exc_osa X4 hx4 hcl (show refsVE (.ref C :: bm) = true from hbm) rfl T.noN (fun h5 tk5 dx k5 dn dne hx5 hn5 => ?_)
  have zz : s.heap.objs.size < h4.objs.size := F4.ns.lt
  exact wpAny_execs_nil (hq h5 tk5 dx t' ⟨fun b o e => k5 b o (fun z => by rw [z, hxn] at e; cases e) (F4.keep b o e), hx5, Nat.le_trans hsz (Nat.le_trans (Nat.le_of_lt zz) dn), dne, hn5⟩)
end
end FsB

set_option Elab.async false
set_option linter.all false
set_option maxRecDepth 100000
set_option maxHeartbeats 4000000
namespace FsB
open PySem PySem.W PySem.Calls PyProof.Rows PySem.HandSPX
/-- a made one -/
structure BtMade (h h' : Heap) (e C d : Addr) (v : Value) : Prop where
  keep : ∀ b o, h.get? b = some o → h'.get? b = some o
  big : h.objs.size ≤ e
  obj : ∃ t1 : Addr, h'.get? e = some { cls := .ref C, dict := some d, data := .fields #[.ref t1, .none, .none, .none, .bool false, .none] }
  dbig : h.objs.size ≤ d
  dne : d ≠ e
  ns : h'.Ns1 d (fun y => if y = "field" then some v else none)
section
variable {prog : Program} {w : World} {A : Around} {R : Result → Shared → Prop} {s : Shared} {K : Frag} {mg : Str → Option Value} {x0 : Str} {C fI : Addr}
theorem bt_made (T : ErrTxt prog K mg x0 C fI) {v : Value} (X : K.In s.heap) (G : s.heap.Ns mainGlobals mg) (Bl : ∃ mb, s.heap.Ns builtinsNs mb ∧ mb "super" = some (.type "super")) (hlim : s.heap.NoLimit) (hroom : A.depth + 1 < recursionLimit)
    (hq : ∀ h' tk' e d, BtMade s.heap h' e C d v → R (.ok (.ret (.ref e))) { s with heap := h', toks := tk' }) : codeAny (model prog w) A (.call (.ref C) ⟨[v], []⟩) R s := by
  obtain ⟨nm, q, N, bs, bm, sn, sub, ab, col, dd, k0, k1, k2, k3, k5, hC, hbm⟩ := T.cls
  obtain ⟨g0, gs, dr, t, os⟩ := s
  let g2 : Heap := (g0.push (kdv_tup [v])).push (excO C g0.objs.size)
  have up : ∀ b o, g0.get? b = some o → g2.get? b = some o := fun b o e => Heap.get?_push_of_some _ (Heap.get?_push_of_some _ e)
  have at1 : g2.get? (g0.objs.size + 1) = some (excO C g0.objs.size) := by
    show ((g0.push (kdv_tup [v])).push (excO C g0.objs.size)).get? (g0.objs.size + 1) = _
    heap_get
  have sz2 : g2.objs.size = g0.objs.size + 1 + 1 := by
    show ((g0.push (kdv_tup [v])).push (excO C g0.objs.size)).objs.size = _
    rw [Heap.size_push, Heap.size_push]
  have free1 : g0.get? (g0.objs.size + 1) = none := by
    cases e : g0.get? (g0.objs.size + 1) with
    | none => rfl
    | some o => exact absurd (Nat.lt_of_succ_lt (Heap.lt_size e)) (Nat.lt_irrefl _)
  refine call_own F.excBase_ValueError (fun Y => refsVE_contains Y bm hbm) (X _ _ hC) (looks_findIn X T.iC) (fun self => bind_fn X self T.tC) (len1 _) ?_
  refine bt_init (s := ⟨g2, gs, dr, t, os⟩) (hp := g0) T X G Bl (hlim.keeps up) up (by show g0.objs.size ≤ g2.objs.size; omega) at1 free1 hroom fun h' t' dx t1 ⟨k, ho, dbig, dne, hns⟩ => ?_
  exact ⟨rfl, hq h' t' (g0.objs.size + 1) dx ⟨k, Nat.le_succ _, ⟨t1, ho⟩, dbig, dne, hns⟩⟩
end
end FsB
namespace Fs
open PySem PySem.Spec PyProof.Rows L2 FsB
theorem relO_field {f : Str} {v : V} {u : Value} (r : RelV v u) (g : Str) : RelO (List.lookup g [(f, v)]) (if g = f then some u else none) := by
  by_cases h : g = f
  · rw [h, if_pos rfl, show List.lookup f [(f, v)] = some v by simp [List.lookup]]
    exact r
  · rw [if_neg h, show List.lookup g [(f, v)] = none by simp [List.lookup, show (g == f) = false by simpa using h]]
    trivial
theorem raises_bt {P : Program} {w : World} {K : PySem.W.Frag} {mg : Str → Option Value} {base : Heap} {x : Str} {C fI : Addr} {k : Nat} (hdb : (x == ("__debug__" : Str)) = false) (T : ErrTxt P K mg x C fI) : RaisesX P w K mg base x C "field" k := by
  intro X eP ew eK em eb hr a ta p pos ha hg he hpl pins s σ H Q I h
  subst eP ew eK em eb
  refine wpAny_Call_Name_kw (ld_glob I hg T.gC ?_ hdb)
  refine PySem.W.callWith_K (h₀ := X.base) I.ok.mod.kin T.kC (thn (ha.run pos pins s σ H _ I h) fun us s1 ⟨vs, H1, I1, r1, z, ev, hz, q1⟩ => ?_) he hpl
  subst ev
  refine ⟨I1.kIn, ?_⟩
  cases r1 with
  | cons rv rn =>
    cases rn
    obtain ⟨tk, rfl⟩ := rv
    show wpAny _ _ (call (.ref C) [.str z tk]) _ _ _
    have lim := I1.nolimit
    obtain ⟨mb, b1, b2⟩ := I1.ok.mod.blt
    have gl : s1.heap.Ns mainGlobals X.mg := I1.ok.mod.glob.keeps I1.bk
    have bl : ∃ mb, s1.heap.Ns builtinsNs mb ∧ mb "super" = some (.type "super") := ⟨mb, b1.keeps I1.bk, (b2 _ (by decide)).trans Boot.«super»⟩
    obtain ⟨g0, gs, dr, t, os⟩ := s1
    refine wpAny_call (bt_made T I1.kIn gl bl lim (by have := hr.dp; omega) fun h' t' e d M => ?_)
    show MkP X pins σ Q (.ref e) ⟨h', gs, dr, t', os⟩
    obtain ⟨t1, ho⟩ := M.obj
    obtain ⟨G', ge1, ge2⟩ := restrict h' fun b => decide (b ≠ e)
    have same : ∀ b, b ≠ e → G'.get? b = h'.get? b := fun b hb => ge1 b (decide_eq_true hb)
    have gone : G'.get? e = none := ge2 e (by simp)
    have old : ∀ b o, g0.get? b = some o → G'.get? b = some o := fun b o q => (same b (Nat.ne_of_lt (Nat.lt_of_lt_of_le (Heap.lt_size q) M.big))).trans (M.keep b o q)
    have ob : ObjOk X.prog X.w (upd H1 d (.xd [(("field" : Str), V.str z)])) G' d (.xd [(("field" : Str), V.str z)]) := ⟨_, M.ns.at (fun o q => (same d M.dne).trans q), fun f => relO_field (v := V.str z) ⟨tk, rfl⟩ f⟩
    have J : Inv X pins σ (upd H1 d (.xd [(("field" : Str), V.str z)])) ⟨G', gs, dr, t', os⟩ := I1.laid (t' := t') old M.dbig ob
    refine ⟨e, _, _, ⟨G', gs, dr, t', os⟩, _, .ref C, some d, rfl, J, fun b o q => ?_, gone, ho, ⟨rfl, rfl⟩, rfl, rfl, ?_, rfl, I1.bare, raises_own T.exC T.tyC, q1 d (I1.hok.fresh M.dbig)⟩
    · by_cases hb : b = e
      · have q' : G'.get? b = some o := q
        rw [hb, gone] at q'
        cases q'
      · exact (same b hb).symm.trans q
    · rw [upd_ne (Ne.symm M.dne)]
      exact I1.hok.fresh M.big
end Fs

set_option Elab.async false
set_option linter.all false
set_option maxRecDepth 100000
set_option maxHeartbeats 8000000
namespace Fs
open PySem PySem.Spec PyProof.Rows L2 Evl FsE FsC FsR FsT FsK FsP FsQ FsB
theorem exm_own {K : PySem.W.Frag} {S : Addr} (h1 : PySem.W.subIn K (.ref S) (.type "BaseException") = some true) (h2 : PySem.W.isClsIn K S = true) (h3 : PySem.W.typeIn K (.ref S) = some (.type "type")) (h4 : PySem.W.subIn K (.ref S) (.ref S) = some true) : PySem.W.exmOne K (.ref S) (.ref S) = some true := by
  unfold PySem.W.exmOne PySem.W.kitCls
  have h2' : (PySem.W.clsIn K S).isSome = true := h2
  simp only [h1, h2', h3, h4, beq_self_eq_true, Bool.and_self, if_true]
theorem kit_no {K : PySem.W.Frag} {S : Addr} {T : String} (h2 : PySem.W.isClsIn K S = true) (h3 : PySem.W.typeIn K (.ref S) = some (.type "type")) (h4 : PySem.W.subIn K (.type T) (.ref S) = some false) : PySem.W.kitOne K (.type T) (.ref S) = some false := by
  unfold PySem.W.kitOne PySem.W.kitCls
  have h2' : (PySem.W.clsIn K S).isSome = true := h2
  have h0 : (Value.type T == Value.ref S) = false := rfl
  simp only [h0, h2', h3, h4, beq_self_eq_true, Bool.and_self, if_true]
  rfl
theorem kit_two {K : PySem.W.Frag} {C S : Addr} (h0 : (Value.ref C == Value.ref S) = false) (h2 : PySem.W.isClsIn K S = true) (h3 : PySem.W.typeIn K (.ref S) = some (.type "type")) (h4 : PySem.W.subIn K (.ref C) (.ref S) = some false) : PySem.W.kitOne K (.ref C) (.ref S) = some false := by
  unfold PySem.W.kitOne PySem.W.kitCls
  have h2' : (PySem.W.clsIn K S).isSome = true := h2
  simp only [h0, h2', h3, h4, beq_self_eq_true, Bool.and_self, if_true]
  rfl
theorem all_mk {P : Program} {w : World} {K : PySem.W.Frag} {h : Heap} {mg : Str → Option Value} {fa : Addr} (X : K.In h) (G : h.Ns mainGlobals mg) (hfa : mg "law" = some (.ref fa))
    {CB : Addr} {nmB qB : Str} {NB cS fB cda cc : Addr} {bsB : List Value} {snB : List Str} {subB : List Value} {abB : Bool} {colB : Option Bool} {ddB : Option Addr} {m0 m1 m2 m3 m5 : Option Value} {ocB kVB dcB pmB ctB ccl clB : Value} {odB anB cdd cld : Option Addr} {slB ccs csl : Array (Option Value)} {vsB : Array Value} {fileB : Str} {tfB : Tok} {zM : Str} {b1 b2 q0 r0 r1 r2 r3 r4 r5 r6 r7 r8 : Pos}
    {zL : Str} {tL : Tok}
    {zD : Str} {tD : Tok}
    {iN : Int} {tN : Tok}
    {iT : Int} {tT : Tok}
    {iM : Int} {tM : Tok}
    {iDe : Int} {tDe : Tok}
    {iSi : Int} {tSi : Tok}
    {aR : Addr} {odR : Option Addr} {slR : Array (Option Value)} {itsR : Array Value} {nR : Nat}
    {C : Addr}
    {finit : Addr} {odinit aninit : Option Addr} {slinit : Array (Option Value)} {ocinit kVinit dcinit pminit cdinit ctinit : Value}
    {fisname : Addr} {odisname anisname : Option Addr} {slisname : Array (Option Value)} {ocisname kVisname dcisname pmisname cdisname ctisname : Value}
    {fisint : Addr} {odisint anisint : Option Addr} {slisint : Array (Option Value)} {ocisint kVisint dcisint pmisint cdisint ctisint : Value}
    {fisshort : Addr} {odisshort anisshort : Option Addr} {slisshort : Array (Option Value)} {ocisshort kVisshort dcisshort pmisshort cdisshort ctisshort : Value}
    {fisop : Addr} {odisop anisop : Option Addr} {slisop : Array (Option Value)} {ocisop kVisop dcisop pmisop cdisop ctisop : Value}
    {fdemand : Addr} {oddemand andemand : Option Addr} {sldemand : Array (Option Value)} {ocdemand kVdemand dcdemand pmdemand cddemand ctdemand : Value}
    {finner : Addr} {odinner aninner : Option Addr} {slinner : Array (Option Value)} {ocinner kVinner dcinner pminner cdinner ctinner : Value}
    {fsize : Addr} {odsize ansize : Option Addr} {slsize : Array (Option Value)} {ocsize kVsize dcsize pmsize cdsize ctsize : Value}
    {fdepth : Addr} {oddepth andepth : Option Addr} {sldepth : Array (Option Value)} {ocdepth kVdepth dcdepth pmdepth cddepth ctdepth : Value}
    {iOp : Int} {tOp : Tok}
    {iOf : Int} {tOf : Tok}
    {pstop : Addr} {reststop : List Value}
    {fststop : Addr} {odststop anststop : Option Addr} {slststop : Array (Option Value)} {ocststop kVststop dcststop pmststop cdststop ctststop : Value}
    {poffer : Addr} {restoffer : List Value}
    {fstoffer : Addr} {odstoffer anstoffer : Option Addr} {slstoffer : Array (Option Value)} {ocstoffer kVstoffer dcstoffer pmstoffer cdstoffer ctstoffer : Value}
    {pnew : Addr} {restnew : List Value}
    {fstnew : Addr} {odstnew anstnew : Option Addr} {slstnew : Array (Option Value)} {ocstnew kVstnew dcstnew pmstnew cdstnew ctstnew : Value}
    {pwhen : Addr} {restwhen : List Value}
    {fstwhen : Addr} {odstwhen anstwhen : Option Addr} {slstwhen : Array (Option Value)} {ocstwhen kVstwhen dcstwhen pmstwhen cdstwhen ctstwhen : Value}
    {pcall : Addr} {restcall : List Value}
    {fstcall : Addr} {odstcall anstcall : Option Addr} {slstcall : Array (Option Value)} {ocstcall kVstcall dcstcall pmstcall cdstcall ctstcall : Value}
    {fadd : Addr} {odadd anadd : Option Addr} {sladd : Array (Option Value)} {ocadd kVadd dcadd pmadd cdadd ctadd : Value}
    {fpeq : Addr} {odpeq anpeq : Option Addr} {slpeq : Array (Option Value)} {ocpeq kVpeq dcpeq pmpeq cdpeq ctpeq : Value}
    {farenames : Addr} {odarenames anarenames : Option Addr} {slarenames : Array (Option Value)} {ocarenames kVarenames dcarenames pmarenames cdarenames ctarenames : Value}
    {fisseats : Addr} {odisseats anisseats : Option Addr} {slisseats : Array (Option Value)} {ocisseats kVisseats dcisseats pmisseats cdisseats ctisseats : Value}
    {fischoice : Addr} {odischoice anischoice : Option Addr} {slischoice : Array (Option Value)} {ocischoice kVischoice dcischoice pmischoice cdischoice ctischoice : Value}
    {fcellat : Addr} {odcellat ancellat : Option Addr} {slcellat : Array (Option Value)} {occellat kVcellat dccellat pmcellat cdcellat ctcellat : Value}
    {fmixed : Addr} {odmixed anmixed : Option Addr} {slmixed : Array (Option Value)} {ocmixed kVmixed dcmixed pmmixed cdmixed ctmixed : Value}
    {frow : Addr} {odrow anrow : Option Addr} {slrow : Array (Option Value)} {ocrow kVrow dcrow pmrow cdrow ctrow : Value}
    {fword : Addr} {odword anword : Option Addr} {slword : Array (Option Value)} {ocword kVword dcword pmword cdword ctword : Value}
    {flop : Addr} {odlop anlop : Option Addr} {sllop : Array (Option Value)} {oclop kVlop dclop pmlop cdlop ctlop : Value}
    {floff : Addr} {odloff anloff : Option Addr} {slloff : Array (Option Value)} {ocloff kVloff dcloff pmloff cdloff ctloff : Value}
    {fterm : Addr} {odterm anterm : Option Addr} {slterm : Array (Option Value)} {octerm kVterm dcterm pmterm cdterm ctterm : Value}
    {fmade : Addr} {odmade anmade : Option Addr} {slmade : Array (Option Value)} {ocmade kVmade dcmade pmmade cdmade ctmade : Value}
    {fltext : Addr} {odltext anltext : Option Addr} {slltext : Array (Option Value)} {ocltext kVltext dcltext pmltext cdltext ctltext : Value}
    {fptext : Addr} {odptext anptext : Option Addr} {slptext : Array (Option Value)} {ocptext kVptext dcptext pmptext cdptext ctptext : Value}
    {fptoks : Addr} {odptoks anptoks : Option Addr} {slptoks : Array (Option Value)} {ocptoks kVptoks dcptoks pmptoks cdptoks ctptoks : Value}
    {fctoks : Addr} {odctoks anctoks : Option Addr} {slctoks : Array (Option Value)} {occtoks kVctoks dcctoks pmctoks cdctoks ctctoks : Value}
    {fotoks : Addr} {odotoks anotoks : Option Addr} {slotoks : Array (Option Value)} {ocotoks kVotoks dcotoks pmotoks cdotoks ctotoks : Value}
    {fbrack : Addr} {odbrack anbrack : Option Addr} {slbrack : Array (Option Value)} {ocbrack kVbrack dcbrack pmbrack cdbrack ctbrack : Value}
    {fprd : Addr} {odprd anprd : Option Addr} {slprd : Array (Option Value)} {ocprd kVprd dcprd pmprd cdprd ctprd : Value}
    {flike : Addr} {odlike anlike : Option Addr} {sllike : Array (Option Value)} {oclike kVlike dclike pmlike cdlike ctlike : Value}
    {fwidth : Addr} {odwidth anwidth : Option Addr} {slwidth : Array (Option Value)} {ocwidth kVwidth dcwidth pmwidth cdwidth ctwidth : Value}
    {fsame : Addr} {odsame ansame : Option Addr} {slsame : Array (Option Value)} {ocsame kVsame dcsame pmsame cdsame ctsame : Value}
    {fsameo : Addr} {odsameo ansameo : Option Addr} {slsameo : Array (Option Value)} {ocsameo kVsameo dcsameo pmsameo cdsameo ctsameo : Value}
    {flaw : Addr} {odlaw anlaw : Option Addr} {sllaw : Array (Option Value)} {oclaw kVlaw dclaw pmlaw cdlaw ctlaw : Value}
    {CR : Addr}
    {freq : Addr} {odreq anreq : Option Addr} {slreq : Array (Option Value)} {ocreq kVreq dcreq pmreq cdreq ctreq : Value}
    {fmore : Addr} {odmore anmore : Option Addr} {slmore : Array (Option Value)} {ocmore kVmore dcmore pmmore cdmore ctmore : Value}
    {ffin : Addr} {odfin anfin : Option Addr} {slfin : Array (Option Value)} {ocfin kVfin dcfin pmfin cdfin ctfin : Value}
    {ftok : Addr} {odtok antok : Option Addr} {sltok : Array (Option Value)} {octok kVtok dctok pmtok cdtok cttok : Value}
    {ftki : Addr} {odtki antki : Option Addr} {sltki : Array (Option Value)} {octki kVtki dctki pmtki cdtki cttki : Value}
    {frin : Addr} {odrin anrin : Option Addr} {slrin : Array (Option Value)} {ocrin kVrin dcrin pmrin cdrin ctrin : Value}
    {fxpt : Addr} {odxpt anxpt : Option Addr} {slxpt : Array (Option Value)} {ocxpt kVxpt dcxpt pmxpt cdxpt ctxpt : Value}
    {ftko : Addr} {odtko antko : Option Addr} {sltko : Array (Option Value)} {octko kVtko dctko pmtko cdtko cttko : Value}
    {ftkl : Addr} {odtkl antkl : Option Addr} {sltkl : Array (Option Value)} {octkl kVtkl dctkl pmtkl cdtkl cttkl : Value}
    {ftkc : Addr} {odtkc antkc : Option Addr} {sltkc : Array (Option Value)} {octkc kVtkc dctkc pmtkc cdtkc cttkc : Value}
    {ftkf : Addr} {odtkf antkf : Option Addr} {sltkf : Array (Option Value)} {octkf kVtkf dctkf pmtkf cdtkf cttkf : Value}
    {ftkn : Addr} {odtkn antkn : Option Addr} {sltkn : Array (Option Value)} {octkn kVtkn dctkn pmtkn cdtkn cttkn : Value}
    {ftkw : Addr} {odtkw antkw : Option Addr} {sltkw : Array (Option Value)} {octkw kVtkw dctkw pmtkw cdtkw cttkw : Value}
    {ftkp : Addr} {odtkp antkp : Option Addr} {sltkp : Array (Option Value)} {octkp kVtkp dctkp pmtkp cdtkp cttkp clDtkp : Value} {aDtkp : Addr} {odDtkp : Option Addr} {nDtkp : Nat} {slDtkp : Array (Option Value)} {iDtkp : Int} {tDtkp : Tok}
    {CT : Addr}
    {ftin : Addr} {odtin antin : Option Addr} {sltin : Array (Option Value)} {octin kVtin dctin pmtin cdtin cttin : Value}
    {iDg : Int} {tDg : Tok}
    {fir : Addr} {odir anir : Option Addr} {slir : Array (Option Value)} {ocir kVir dcir pmir cdir ctir : Value}
    {forr : Addr} {odorr anorr : Option Addr} {slorr : Array (Option Value)} {ocorr kVorr dcorr pmorr cdorr ctorr : Value}
    (aB : PySem.W.nsIn K mainGlobals "BadTerm" = some (some (.ref CB)))
    (xB : K.lookup CB = some (excClassObj nmB qB CB NB bsB [.ref cS, .type "ValueError", .type "Exception", .type "BaseException", .type "object"] true snB subB abB colB ddB m0 m1 m2 m3 m5 "ValueError.__new__"))
    (eiB : PySem.W.excInitIn K CB [.type "ValueError", .type "Exception", .type "BaseException", .type "object"] "ValueError.__new__" = true)
    (saB : PySem.W.findIn K (.ref CB) "__setattr__" = some (some (.builtin "object.__setattr__")))
    (noB : PySem.W.findIn K (.ref CB) "field" = some none)
    (iB : PySem.W.findIn K (.ref CB) "__init__" = some (some (.ref fB)))
    (tB : PySem.W.typeIn K (.ref fB) = some (.type "function"))
    (kB : PySem.W.keepIn K (.ref CB) = true)
    (exB : PySem.W.subIn K (.ref CB) (.type "BaseException") = some true)
    (veB : PySem.W.subIn K (.ref CB) (.type "ValueError") = some true)
    (tyB : PySem.W.typeIn K (.ref CB) = some (.type "type"))
    (mroB : PySem.W.mroIn K CB (.ref CB) = some true)
    (spB : PySem.W.ks_superIn K CB CB "__init__" = some (some (.builtin "ValueError.__init__")))
    (opq : PySem.W.nsIn K cStatics "thirdparty.any" = some none)
    (lB : K.lookup fB = some ⟨ocB, odB, .func (PySem.W.ksFn "__init__" "BadTerm.__init__" (FsB.eA b1 b2) (FsB.eB (FsB.eM zM q0) r0 r1 r2 r3 r4 r5 r6 r7 r8) FsB.eS .none kVB dcB pmB anB (.ref cda) ctB cc), slB⟩)
    (cB : PySem.W.codeIn K (.ref cda) "BadTerm.__init__" = true)
    (oB : K.lookup cda = some ⟨ccl, cdd, .fields vsB, ccs⟩)
    (vB : vsB[2]? = some (.str fileB tfB))
    (fB1 : ((P.main.file : Str) == fileB) = true)
    (ceB : K.lookup cc = some ⟨clB, cld, .cell (some (.ref CB)), csl⟩)
    (lnB : (r2.endLine == r3.line) = true)
    (zMB : zM.length ≤ 1000)
    (topB : (P.main.scope.names.lookup ("super" : Str)).isSome = false)
    (gaB : PySem.W.findIn K (.ref CB) "__getattribute__" = some (some (.builtin "BaseException.__getattribute__")))
    (ggB : PySem.W.findIn K (.ref CB) "__getattr__" = some none)
    (hdB : PySem.W.hasDictIn K CB = true)
    (icB : PySem.W.isClsIn K CB = true)
    (sbB : PySem.W.subIn K (.ref CB) (.ref CB) = some true)
    (z_super : PySem.W.nsIn K mainGlobals "super" = some (none))
    (gL : PySem.W.nsIn K mainGlobals "LETTERS" = some (some (.str zL tL)))
    (hL : zL = lettersS)
    (gD : PySem.W.nsIn K mainGlobals "DIGITS" = some (some (.str zD tD)))
    (hD : zD = digitsS)
    (gN : PySem.W.nsIn K mainGlobals "NAME_LENGTH" = some (some (.int iN tN)))
    (hN : iN = 8)
    (gT : PySem.W.nsIn K mainGlobals "TOO_LONG" = some (some (.int iT tT)))
    (hT : iT = 10 ^ 30)
    (gM : PySem.W.nsIn K mainGlobals "MOST_SEATS" = some (some (.int iM tM)))
    (hM : iM = 4)
    (gDe : PySem.W.nsIn K mainGlobals "MOST_DEPTH" = some (some (.int iDe tDe)))
    (hDe : iDe = 20)
    (gSi : PySem.W.nsIn K mainGlobals "MOST_SIZE" = some (some (.int iSi tSi)))
    (hSi : iSi = 400)
    (gR : PySem.W.nsIn K mainGlobals "RESERVED" = some (some (.ref aR)))
    (lR : K.lookup aR = some ⟨.type "tuple", odR, .seq itsR nR, slR⟩)
    (sR : itsR.size ≤ 1000)
    (hR : Vals reservedV itsR.toList)
    (z_isinstance : PySem.W.nsIn K mainGlobals "isinstance" = some (none))
    (z_str : PySem.W.nsIn K mainGlobals "str" = some (none))
    (z_int : PySem.W.nsIn K mainGlobals "int" = some (none))
    (z_bool : PySem.W.nsIn K mainGlobals "bool" = some (none))
    (z_len : PySem.W.nsIn K mainGlobals "len" = some (none))
    (z_all : PySem.W.nsIn K mainGlobals "all" = some (none))
    (aC : PySem.W.nsIn K mainGlobals "Process" = some (some (.ref C)))
    (pg : PySem.W.plainGet K C Str.empty = true)
    (hd : PySem.W.hasDictIn K C = true)
    (po : PySem.W.plainOver K C = true)
    (sa : PySem.W.findIn K (.ref C) "__setattr__" = some (some (.builtin "object.__setattr__")))
    (n_kind : PySem.W.findIn K (.ref C) "kind" = some none)
    (n_parts : PySem.W.findIn K (.ref C) "parts" = some none)
    (n_depth : PySem.W.findIn K (.ref C) "depth" = some none)
    (n_size : PySem.W.findIn K (.ref C) "size" = some none)
    (mk : PySem.W.makesIn K C = true)
    (kc : PySem.W.keepIn K (.ref C) = true)
    (ha : PySem.W.findIn K (.ref C) "__class__" = some (some (.builtin "object.__class__")))
    (hn : PySem.W.specialIn K (.builtin "object.__class__") "__get__" = some (some (.builtin "getset_descriptor.__get__")))
    (ht : PySem.W.takesIn K (.builtin "object.__class__") = some true)
    (hm : PySem.W.mroIn K C (.type "object") = some true)
    (ic : PySem.W.isClsIn K C = true)
    (ty : PySem.W.typeIn K (.ref C) = some (.type "type"))
    (no_str : PySem.W.subIn K (.type "str") (.ref C) = some false)
    (no_int : PySem.W.subIn K (.type "int") (.ref C) = some false)
    (no_tuple : PySem.W.subIn K (.type "tuple") (.ref C) = some false)
    (z_sum : PySem.W.nsIn K mainGlobals "sum" = some (none))
    (z_max : PySem.W.nsIn K mainGlobals "max" = some (none))
    (z_tuple : PySem.W.nsIn K mainGlobals "tuple" = some (none))
    (minit : PySem.W.findIn K (.ref C) "__init__" = some (some (.ref finit)))
    (iinit : PySem.W.isFn K (.ref finit) = true)
    (linit : K.lookup finit = some ⟨ocinit, odinit, .func (PySem.W.fnOf "__init__" "Process.__init__" (defArgs (inClass (topS 30) 0)) (defBody (inClass (topS 30) 0)) (defScope (inClass (topS 30) 0)) .none kVinit dcinit pminit aninit cdinit ctinit), slinit⟩)
    (cinit : PySem.W.codeIn K cdinit "Process.__init__" = true)
    (kinit : PySem.W.keepIn K (.ref finit) = true)
    (aisname : PySem.W.nsIn K mainGlobals "is_name" = some (some (.ref fisname)))
    (lisname : K.lookup fisname = some ⟨ocisname, odisname, .func (PySem.W.fnOf "is_name" "is_name" (defArgs (topS 9)) (defBody (topS 9)) (defScope (topS 9)) .none kVisname dcisname pmisname anisname cdisname ctisname), slisname⟩)
    (cisname : PySem.W.codeIn K cdisname "is_name" = true)
    (kisname : PySem.W.keepIn K (.ref fisname) = true)
    (aisint : PySem.W.nsIn K mainGlobals "is_int" = some (some (.ref fisint)))
    (lisint : K.lookup fisint = some ⟨ocisint, odisint, .func (PySem.W.fnOf "is_int" "is_int" (defArgs (topS 11)) (defBody (topS 11)) (defScope (topS 11)) .none kVisint dcisint pmisint anisint cdisint ctisint), slisint⟩)
    (cisint : PySem.W.codeIn K cdisint "is_int" = true)
    (kisint : PySem.W.keepIn K (.ref fisint) = true)
    (aisshort : PySem.W.nsIn K mainGlobals "is_short" = some (some (.ref fisshort)))
    (lisshort : K.lookup fisshort = some ⟨ocisshort, odisshort, .func (PySem.W.fnOf "is_short" "is_short" (defArgs (topS 12)) (defBody (topS 12)) (defScope (topS 12)) .none kVisshort dcisshort pmisshort anisshort cdisshort ctisshort), slisshort⟩)
    (cisshort : PySem.W.codeIn K cdisshort "is_short" = true)
    (kisshort : PySem.W.keepIn K (.ref fisshort) = true)
    (aisop : PySem.W.nsIn K mainGlobals "is_operand" = some (some (.ref fisop)))
    (lisop : K.lookup fisop = some ⟨ocisop, odisop, .func (PySem.W.fnOf "is_operand" "is_operand" (defArgs (topS 13)) (defBody (topS 13)) (defScope (topS 13)) .none kVisop dcisop pmisop anisop cdisop ctisop), slisop⟩)
    (cisop : PySem.W.codeIn K cdisop "is_operand" = true)
    (kisop : PySem.W.keepIn K (.ref fisop) = true)
    (ademand : PySem.W.nsIn K mainGlobals "demand" = some (some (.ref fdemand)))
    (ldemand : K.lookup fdemand = some ⟨ocdemand, oddemand, .func (PySem.W.fnOf "demand" "demand" (defArgs (topS 26)) (defBody (topS 26)) (defScope (topS 26)) .none kVdemand dcdemand pmdemand andemand cddemand ctdemand), sldemand⟩)
    (cdemand : PySem.W.codeIn K cddemand "demand" = true)
    (kdemand : PySem.W.keepIn K (.ref fdemand) = true)
    (ainner : PySem.W.nsIn K mainGlobals "inner_processes" = some (some (.ref finner)))
    (linner : K.lookup finner = some ⟨ocinner, odinner, .func (PySem.W.fnOf "inner_processes" "inner_processes" (defArgs (topS 27)) (defBody (topS 27)) (defScope (topS 27)) .none kVinner dcinner pminner aninner cdinner ctinner), slinner⟩)
    (cinner : PySem.W.codeIn K cdinner "inner_processes" = true)
    (kinner : PySem.W.keepIn K (.ref finner) = true)
    (asize : PySem.W.nsIn K mainGlobals "size_of" = some (some (.ref fsize)))
    (lsize : K.lookup fsize = some ⟨ocsize, odsize, .func (PySem.W.fnOf "size_of" "size_of" (defArgs (topS 28)) (defBody (topS 28)) (defScope (topS 28)) .none kVsize dcsize pmsize ansize cdsize ctsize), slsize⟩)
    (csize : PySem.W.codeIn K cdsize "size_of" = true)
    (ksize : PySem.W.keepIn K (.ref fsize) = true)
    (adepth : PySem.W.nsIn K mainGlobals "depth_of" = some (some (.ref fdepth)))
    (ldepth : K.lookup fdepth = some ⟨ocdepth, oddepth, .func (PySem.W.fnOf "depth_of" "depth_of" (defArgs (topS 29)) (defBody (topS 29)) (defScope (topS 29)) .none kVdepth dcdepth pmdepth andepth cddepth ctdepth), sldepth⟩)
    (cdepth : PySem.W.codeIn K cddepth "depth_of" = true)
    (kdepth : PySem.W.keepIn K (.ref fdepth) = true)
    (gOp : PySem.W.nsIn K mainGlobals "MOST_OPERANDS" = some (some (.int iOp tOp)))
    (hOp : iOp = 4)
    (gOf : PySem.W.nsIn K mainGlobals "MOST_OFFERS" = some (some (.int iOf tOf)))
    (hOf : iOf = 6)
    (rdC : PySem.W.readsIn K C (.type "type") = true)
    (gaC : PySem.W.specialIn K (.ref C) "__getattribute__" = some (some (.builtin "type.__getattribute__")))
    (sstop : PySem.W.findCls K (.ref C) (.type "type") "stop" = some (.get (.builtin "staticmethod.__get__") (.ref pstop) .none (.ref C)))
    (rstop : PySem.W.recIn K pstop "staticmethod" = some (.ref fststop :: reststop))
    (lststop : K.lookup fststop = some ⟨ocststop, odststop, .func (PySem.W.fnOf "stop" "Process.stop" (defArgs (inClass (topS 30) 1)) (defBody (inClass (topS 30) 1)) (defScope (inClass (topS 30) 1)) .none kVststop dcststop pmststop anststop cdststop ctststop), slststop⟩)
    (cststop : PySem.W.codeIn K cdststop "Process.stop" = true)
    (kststop : PySem.W.keepIn K (.ref fststop) = true)
    (soffer : PySem.W.findCls K (.ref C) (.type "type") "offer" = some (.get (.builtin "staticmethod.__get__") (.ref poffer) .none (.ref C)))
    (roffer : PySem.W.recIn K poffer "staticmethod" = some (.ref fstoffer :: restoffer))
    (lstoffer : K.lookup fstoffer = some ⟨ocstoffer, odstoffer, .func (PySem.W.fnOf "offer" "Process.offer" (defArgs (inClass (topS 30) 2)) (defBody (inClass (topS 30) 2)) (defScope (inClass (topS 30) 2)) .none kVstoffer dcstoffer pmstoffer anstoffer cdstoffer ctstoffer), slstoffer⟩)
    (cstoffer : PySem.W.codeIn K cdstoffer "Process.offer" = true)
    (kstoffer : PySem.W.keepIn K (.ref fstoffer) = true)
    (snew : PySem.W.findCls K (.ref C) (.type "type") "new" = some (.get (.builtin "staticmethod.__get__") (.ref pnew) .none (.ref C)))
    (rnew : PySem.W.recIn K pnew "staticmethod" = some (.ref fstnew :: restnew))
    (lstnew : K.lookup fstnew = some ⟨ocstnew, odstnew, .func (PySem.W.fnOf "new" "Process.new" (defArgs (inClass (topS 30) 3)) (defBody (inClass (topS 30) 3)) (defScope (inClass (topS 30) 3)) .none kVstnew dcstnew pmstnew anstnew cdstnew ctstnew), slstnew⟩)
    (cstnew : PySem.W.codeIn K cdstnew "Process.new" = true)
    (kstnew : PySem.W.keepIn K (.ref fstnew) = true)
    (swhen : PySem.W.findCls K (.ref C) (.type "type") "when" = some (.get (.builtin "staticmethod.__get__") (.ref pwhen) .none (.ref C)))
    (rwhen : PySem.W.recIn K pwhen "staticmethod" = some (.ref fstwhen :: restwhen))
    (lstwhen : K.lookup fstwhen = some ⟨ocstwhen, odstwhen, .func (PySem.W.fnOf "when" "Process.when" (defArgs (inClass (topS 30) 4)) (defBody (inClass (topS 30) 4)) (defScope (inClass (topS 30) 4)) .none kVstwhen dcstwhen pmstwhen anstwhen cdstwhen ctstwhen), slstwhen⟩)
    (cstwhen : PySem.W.codeIn K cdstwhen "Process.when" = true)
    (kstwhen : PySem.W.keepIn K (.ref fstwhen) = true)
    (scall : PySem.W.findCls K (.ref C) (.type "type") "call" = some (.get (.builtin "staticmethod.__get__") (.ref pcall) .none (.ref C)))
    (rcall : PySem.W.recIn K pcall "staticmethod" = some (.ref fstcall :: restcall))
    (lstcall : K.lookup fstcall = some ⟨ocstcall, odstcall, .func (PySem.W.fnOf "call" "Process.call" (defArgs (inClass (topS 30) 5)) (defBody (inClass (topS 30) 5)) (defScope (inClass (topS 30) 5)) .none kVstcall dcstcall pmstcall anstcall cdstcall ctstcall), slstcall⟩)
    (cstcall : PySem.W.codeIn K cdstcall "Process.call" = true)
    (kstcall : PySem.W.keepIn K (.ref fstcall) = true)
    (madd : PySem.W.findIn K (.ref C) "__add__" = some (some (.ref fadd)))
    (iadd : PySem.W.isFn K (.ref fadd) = true)
    (ladd : K.lookup fadd = some ⟨ocadd, odadd, .func (PySem.W.fnOf "__add__" "Process.__add__" (defArgs (inClass (topS 30) 7)) (defBody (inClass (topS 30) 7)) (defScope (inClass (topS 30) 7)) .none kVadd dcadd pmadd anadd cdadd ctadd), sladd⟩)
    (cadd : PySem.W.codeIn K cdadd "Process.__add__" = true)
    (kadd : PySem.W.keepIn K (.ref fadd) = true)
    (mpeq : PySem.W.findIn K (.ref C) "__eq__" = some (some (.ref fpeq)))
    (ipeq : PySem.W.isFn K (.ref fpeq) = true)
    (lpeq : K.lookup fpeq = some ⟨ocpeq, odpeq, .func (PySem.W.fnOf "__eq__" "Process.__eq__" (defArgs (inClass (topS 30) 6)) (defBody (inClass (topS 30) 6)) (defScope (inClass (topS 30) 6)) .none kVpeq dcpeq pmpeq anpeq cdpeq ctpeq), slpeq⟩)
    (cpeq : PySem.W.codeIn K cdpeq "Process.__eq__" = true)
    (kpeq : PySem.W.keepIn K (.ref fpeq) = true)
    (aarenames : PySem.W.nsIn K mainGlobals "are_names" = some (some (.ref farenames)))
    (larenames : K.lookup farenames = some ⟨ocarenames, odarenames, .func (PySem.W.fnOf "are_names" "are_names" (defArgs (topS 10)) (defBody (topS 10)) (defScope (topS 10)) .none kVarenames dcarenames pmarenames anarenames cdarenames ctarenames), slarenames⟩)
    (carenames : PySem.W.codeIn K cdarenames "are_names" = true)
    (karenames : PySem.W.keepIn K (.ref farenames) = true)
    (aisseats : PySem.W.nsIn K mainGlobals "is_seats" = some (some (.ref fisseats)))
    (lisseats : K.lookup fisseats = some ⟨ocisseats, odisseats, .func (PySem.W.fnOf "is_seats" "is_seats" (defArgs (topS 14)) (defBody (topS 14)) (defScope (topS 14)) .none kVisseats dcisseats pmisseats anisseats cdisseats ctisseats), slisseats⟩)
    (cisseats : PySem.W.codeIn K cdisseats "is_seats" = true)
    (kisseats : PySem.W.keepIn K (.ref fisseats) = true)
    (aischoice : PySem.W.nsIn K mainGlobals "is_choice" = some (some (.ref fischoice)))
    (lischoice : K.lookup fischoice = some ⟨ocischoice, odischoice, .func (PySem.W.fnOf "is_choice" "is_choice" (defArgs (topS 32)) (defBody (topS 32)) (defScope (topS 32)) .none kVischoice dcischoice pmischoice anischoice cdischoice ctischoice), slischoice⟩)
    (cischoice : PySem.W.codeIn K cdischoice "is_choice" = true)
    (kischoice : PySem.W.keepIn K (.ref fischoice) = true)
    (acellat : PySem.W.nsIn K mainGlobals "_law_cell_at" = some (some (.ref fcellat)))
    (lcellat : K.lookup fcellat = some ⟨occellat, odcellat, .func (PySem.W.fnOf "_law_cell_at" "_law_cell_at" (defArgs (topS 48)) (defBody (topS 48)) (defScope (topS 48)) .none kVcellat dccellat pmcellat ancellat cdcellat ctcellat), slcellat⟩)
    (ccellat : PySem.W.codeIn K cdcellat "_law_cell_at" = true)
    (kcellat : PySem.W.keepIn K (.ref fcellat) = true)
    (amixed : PySem.W.nsIn K mainGlobals "_law_mixed" = some (some (.ref fmixed)))
    (lmixed : K.lookup fmixed = some ⟨ocmixed, odmixed, .func (PySem.W.fnOf "_law_mixed" "_law_mixed" (defArgs (topS 49)) (defBody (topS 49)) (defScope (topS 49)) .none kVmixed dcmixed pmmixed anmixed cdmixed ctmixed), slmixed⟩)
    (cmixed : PySem.W.codeIn K cdmixed "_law_mixed" = true)
    (kmixed : PySem.W.keepIn K (.ref fmixed) = true)
    (arow : PySem.W.nsIn K mainGlobals "_law_row" = some (some (.ref frow)))
    (lrow : K.lookup frow = some ⟨ocrow, odrow, .func (PySem.W.fnOf "_law_row" "_law_row" (defArgs (topS 50)) (defBody (topS 50)) (defScope (topS 50)) .none kVrow dcrow pmrow anrow cdrow ctrow), slrow⟩)
    (crow : PySem.W.codeIn K cdrow "_law_row" = true)
    (krow : PySem.W.keepIn K (.ref frow) = true)
    (aword : PySem.W.nsIn K mainGlobals "_law_word" = some (some (.ref fword)))
    (lword : K.lookup fword = some ⟨ocword, odword, .func (PySem.W.fnOf "_law_word" "_law_word" (defArgs (topS 51)) (defBody (topS 51)) (defScope (topS 51)) .none kVword dcword pmword anword cdword ctword), slword⟩)
    (cword : PySem.W.codeIn K cdword "_law_word" = true)
    (kword : PySem.W.keepIn K (.ref fword) = true)
    (alop : PySem.W.nsIn K mainGlobals "_law_operand" = some (some (.ref flop)))
    (llop : K.lookup flop = some ⟨oclop, odlop, .func (PySem.W.fnOf "_law_operand" "_law_operand" (defArgs (topS 52)) (defBody (topS 52)) (defScope (topS 52)) .none kVlop dclop pmlop anlop cdlop ctlop), sllop⟩)
    (clop : PySem.W.codeIn K cdlop "_law_operand" = true)
    (klop : PySem.W.keepIn K (.ref flop) = true)
    (aloff : PySem.W.nsIn K mainGlobals "_law_offer" = some (some (.ref floff)))
    (lloff : K.lookup floff = some ⟨ocloff, odloff, .func (PySem.W.fnOf "_law_offer" "_law_offer" (defArgs (topS 53)) (defBody (topS 53)) (defScope (topS 53)) .none kVloff dcloff pmloff anloff cdloff ctloff), slloff⟩)
    (cloff : PySem.W.codeIn K cdloff "_law_offer" = true)
    (kloff : PySem.W.keepIn K (.ref floff) = true)
    (aterm : PySem.W.nsIn K mainGlobals "_law_term" = some (some (.ref fterm)))
    (lterm : K.lookup fterm = some ⟨octerm, odterm, .func (PySem.W.fnOf "_law_term" "_law_term" (defArgs (topS 54)) (defBody (topS 54)) (defScope (topS 54)) .none kVterm dcterm pmterm anterm cdterm ctterm), slterm⟩)
    (cterm : PySem.W.codeIn K cdterm "_law_term" = true)
    (kterm : PySem.W.keepIn K (.ref fterm) = true)
    (amade : PySem.W.nsIn K mainGlobals "_law_made" = some (some (.ref fmade)))
    (lmade : K.lookup fmade = some ⟨ocmade, odmade, .func (PySem.W.fnOf "_law_made" "_law_made" (defArgs (topS 55)) (defBody (topS 55)) (defScope (topS 55)) .none kVmade dcmade pmmade anmade cdmade ctmade), slmade⟩)
    (cmade : PySem.W.codeIn K cdmade "_law_made" = true)
    (kmade : PySem.W.keepIn K (.ref fmade) = true)
    (altext : PySem.W.nsIn K mainGlobals "_law_process_text" = some (some (.ref fltext)))
    (lltext : K.lookup fltext = some ⟨ocltext, odltext, .func (PySem.W.fnOf "_law_process_text" "_law_process_text" (defArgs (topS 60)) (defBody (topS 60)) (defScope (topS 60)) .none kVltext dcltext pmltext anltext cdltext ctltext), slltext⟩)
    (cltext : PySem.W.codeIn K cdltext "_law_process_text" = true)
    (kltext : PySem.W.keepIn K (.ref fltext) = true)
    (aptext : PySem.W.nsIn K mainGlobals "process_text" = some (some (.ref fptext)))
    (lptext : K.lookup fptext = some ⟨ocptext, odptext, .func (PySem.W.fnOf "process_text" "process_text" (defArgs (topS 41)) (defBody (topS 41)) (defScope (topS 41)) .none kVptext dcptext pmptext anptext cdptext ctptext), slptext⟩)
    (cptext : PySem.W.codeIn K cdptext "process_text" = true)
    (kptext : PySem.W.keepIn K (.ref fptext) = true)
    (aptoks : PySem.W.nsIn K mainGlobals "process_tokens" = some (some (.ref fptoks)))
    (lptoks : K.lookup fptoks = some ⟨ocptoks, odptoks, .func (PySem.W.fnOf "process_tokens" "process_tokens" (defArgs (topS 42)) (defBody (topS 42)) (defScope (topS 42)) .none kVptoks dcptoks pmptoks anptoks cdptoks ctptoks), slptoks⟩)
    (cptoks : PySem.W.codeIn K cdptoks "process_tokens" = true)
    (kptoks : PySem.W.keepIn K (.ref fptoks) = true)
    (actoks : PySem.W.nsIn K mainGlobals "choice_tokens" = some (some (.ref fctoks)))
    (lctoks : K.lookup fctoks = some ⟨occtoks, odctoks, .func (PySem.W.fnOf "choice_tokens" "choice_tokens" (defArgs (topS 43)) (defBody (topS 43)) (defScope (topS 43)) .none kVctoks dcctoks pmctoks anctoks cdctoks ctctoks), slctoks⟩)
    (cctoks : PySem.W.codeIn K cdctoks "choice_tokens" = true)
    (kctoks : PySem.W.keepIn K (.ref fctoks) = true)
    (aotoks : PySem.W.nsIn K mainGlobals "offer_tokens" = some (some (.ref fotoks)))
    (lotoks : K.lookup fotoks = some ⟨ocotoks, odotoks, .func (PySem.W.fnOf "offer_tokens" "offer_tokens" (defArgs (topS 44)) (defBody (topS 44)) (defScope (topS 44)) .none kVotoks dcotoks pmotoks anotoks cdotoks ctotoks), slotoks⟩)
    (cotoks : PySem.W.codeIn K cdotoks "offer_tokens" = true)
    (kotoks : PySem.W.keepIn K (.ref fotoks) = true)
    (abrack : PySem.W.nsIn K mainGlobals "bracketed" = some (some (.ref fbrack)))
    (lbrack : K.lookup fbrack = some ⟨ocbrack, odbrack, .func (PySem.W.fnOf "bracketed" "bracketed" (defArgs (topS 45)) (defBody (topS 45)) (defScope (topS 45)) .none kVbrack dcbrack pmbrack anbrack cdbrack ctbrack), slbrack⟩)
    (cbrack : PySem.W.codeIn K cdbrack "bracketed" = true)
    (kbrack : PySem.W.keepIn K (.ref fbrack) = true)
    (aprd : PySem.W.nsIn K mainGlobals "process_read" = some (some (.ref fprd)))
    (lprd : K.lookup fprd = some ⟨ocprd, odprd, .func (PySem.W.fnOf "process_read" "process_read" (defArgs (topS 46)) (defBody (topS 46)) (defScope (topS 46)) .none kVprd dcprd pmprd anprd cdprd ctprd), slprd⟩)
    (cprd : PySem.W.codeIn K cdprd "process_read" = true)
    (kprd : PySem.W.keepIn K (.ref fprd) = true)
    (alike : PySem.W.nsIn K mainGlobals "_law_like" = some (some (.ref flike)))
    (llike : K.lookup flike = some ⟨oclike, odlike, .func (PySem.W.fnOf "_law_like" "_law_like" (defArgs (topS 56)) (defBody (topS 56)) (defScope (topS 56)) .none kVlike dclike pmlike anlike cdlike ctlike), sllike⟩)
    (clike : PySem.W.codeIn K cdlike "_law_like" = true)
    (klike : PySem.W.keepIn K (.ref flike) = true)
    (awidth : PySem.W.nsIn K mainGlobals "_law_width" = some (some (.ref fwidth)))
    (lwidth : K.lookup fwidth = some ⟨ocwidth, odwidth, .func (PySem.W.fnOf "_law_width" "_law_width" (defArgs (topS 58)) (defBody (topS 58)) (defScope (topS 58)) .none kVwidth dcwidth pmwidth anwidth cdwidth ctwidth), slwidth⟩)
    (cwidth : PySem.W.codeIn K cdwidth "_law_width" = true)
    (kwidth : PySem.W.keepIn K (.ref fwidth) = true)
    (asame : PySem.W.nsIn K mainGlobals "_law_same" = some (some (.ref fsame)))
    (lsame : K.lookup fsame = some ⟨ocsame, odsame, .func (PySem.W.fnOf "_law_same" "_law_same" (defArgs (topS 57)) (defBody (topS 57)) (defScope (topS 57)) .none kVsame dcsame pmsame ansame cdsame ctsame), slsame⟩)
    (csame : PySem.W.codeIn K cdsame "_law_same" = true)
    (ksame : PySem.W.keepIn K (.ref fsame) = true)
    (asameo : PySem.W.nsIn K mainGlobals "_law_same_offer" = some (some (.ref fsameo)))
    (lsameo : K.lookup fsameo = some ⟨ocsameo, odsameo, .func (PySem.W.fnOf "_law_same_offer" "_law_same_offer" (defArgs (topS 59)) (defBody (topS 59)) (defScope (topS 59)) .none kVsameo dcsameo pmsameo ansameo cdsameo ctsameo), slsameo⟩)
    (csameo : PySem.W.codeIn K cdsameo "_law_same_offer" = true)
    (ksameo : PySem.W.keepIn K (.ref fsameo) = true)
    (alaw : PySem.W.nsIn K mainGlobals "law" = some (some (.ref flaw)))
    (llaw : K.lookup flaw = some ⟨oclaw, odlaw, .func (PySem.W.fnOf "law" "law" (defArgs (topS 61)) (defBody (topS 61)) (defScope (topS 61)) .none kVlaw dclaw pmlaw anlaw cdlaw ctlaw), sllaw⟩)
    (claw : PySem.W.codeIn K cdlaw "law" = true)
    (klaw : PySem.W.keepIn K (.ref flaw) = true)
    (aCR : PySem.W.nsIn K mainGlobals "Reader" = some (some (.ref CR)))
    (pgR : PySem.W.plainGet K CR Str.empty = true)
    (hdR : PySem.W.hasDictIn K CR = true)
    (poR : PySem.W.plainOver K CR = true)
    (saR : PySem.W.findIn K (.ref CR) "__setattr__" = some (some (.builtin "object.__setattr__")))
    (nR_tokens : PySem.W.findIn K (.ref CR) "tokens" = some none)
    (nR_taken : PySem.W.findIn K (.ref CR) "taken" = some none)
    (nR_number : PySem.W.findIn K (.ref CR) "number" = some none)
    (mkR : PySem.W.makesIn K CR = true)
    (kcR : PySem.W.keepIn K (.ref CR) = true)
    (haR : PySem.W.findIn K (.ref CR) "__class__" = some (some (.builtin "object.__class__")))
    (hmR : PySem.W.mroIn K CR (.type "object") = some true)
    (icR : PySem.W.isClsIn K CR = true)
    (tyR : PySem.W.typeIn K (.ref CR) = some (.type "type"))
    (mreq : PySem.W.findIn K (.ref CR) "require" = some (some (.ref freq)))
    (ireq : PySem.W.isFn K (.ref freq) = true)
    (lreq : K.lookup freq = some ⟨ocreq, odreq, .func (PySem.W.fnOf "require" "Tokens.require" (defArgs (inClass (topS 36) 2)) (defBody (inClass (topS 36) 2)) (defScope (inClass (topS 36) 2)) .none kVreq dcreq pmreq anreq cdreq ctreq), slreq⟩)
    (creq : PySem.W.codeIn K cdreq "Tokens.require" = true)
    (kreq : PySem.W.keepIn K (.ref freq) = true)
    (mmore : PySem.W.findIn K (.ref CR) "has_more" = some (some (.ref fmore)))
    (imore : PySem.W.isFn K (.ref fmore) = true)
    (lmore : K.lookup fmore = some ⟨ocmore, odmore, .func (PySem.W.fnOf "has_more" "Tokens.has_more" (defArgs (inClass (topS 36) 3)) (defBody (inClass (topS 36) 3)) (defScope (inClass (topS 36) 3)) .none kVmore dcmore pmmore anmore cdmore ctmore), slmore⟩)
    (cmore : PySem.W.codeIn K cdmore "Tokens.has_more" = true)
    (kmore : PySem.W.keepIn K (.ref fmore) = true)
    (mfin : PySem.W.findIn K (.ref CR) "finish" = some (some (.ref ffin)))
    (ifin : PySem.W.isFn K (.ref ffin) = true)
    (lfin : K.lookup ffin = some ⟨ocfin, odfin, .func (PySem.W.fnOf "finish" "Tokens.finish" (defArgs (inClass (topS 36) 4)) (defBody (inClass (topS 36) 4)) (defScope (inClass (topS 36) 4)) .none kVfin dcfin pmfin anfin cdfin ctfin), slfin⟩)
    (cfin : PySem.W.codeIn K cdfin "Tokens.finish" = true)
    (kfin : PySem.W.keepIn K (.ref ffin) = true)
    (mtok : PySem.W.findIn K (.ref CR) "take_token" = some (some (.ref ftok)))
    (itok : PySem.W.isFn K (.ref ftok) = true)
    (ltok : K.lookup ftok = some ⟨octok, odtok, .func (PySem.W.fnOf "take_token" "Tokens.take_token" (defArgs (inClass (topS 36) 5)) (defBody (inClass (topS 36) 5)) (defScope (inClass (topS 36) 5)) .none kVtok dctok pmtok antok cdtok cttok), sltok⟩)
    (ctok : PySem.W.codeIn K cdtok "Tokens.take_token" = true)
    (ktok : PySem.W.keepIn K (.ref ftok) = true)
    (mtki : PySem.W.findIn K (.ref CR) "take_int" = some (some (.ref ftki)))
    (itki : PySem.W.isFn K (.ref ftki) = true)
    (ltki : K.lookup ftki = some ⟨octki, odtki, .func (PySem.W.fnOf "take_int" "Tokens.take_int" (defArgs (inClass (topS 36) 6)) (defBody (inClass (topS 36) 6)) (defScope (inClass (topS 36) 6)) .none kVtki dctki pmtki antki cdtki cttki), sltki⟩)
    (ctki : PySem.W.codeIn K cdtki "Tokens.take_int" = true)
    (ktki : PySem.W.keepIn K (.ref ftki) = true)
    (mrin : PySem.W.findIn K (.ref CR) "__init__" = some (some (.ref frin)))
    (irin : PySem.W.isFn K (.ref frin) = true)
    (lrin : K.lookup frin = some ⟨ocrin, odrin, .func (PySem.W.fnOf "__init__" "Reader.__init__" (defArgs (inClass (topS 38) 0)) (defBody (inClass (topS 38) 0)) (defScope (inClass (topS 38) 0)) .none kVrin dcrin pmrin anrin cdrin ctrin), slrin⟩)
    (crin : PySem.W.codeIn K cdrin "Reader.__init__" = true)
    (krin : PySem.W.keepIn K (.ref frin) = true)
    (mxpt : PySem.W.findIn K (.ref CR) "expect" = some (some (.ref fxpt)))
    (ixpt : PySem.W.isFn K (.ref fxpt) = true)
    (lxpt : K.lookup fxpt = some ⟨ocxpt, odxpt, .func (PySem.W.fnOf "expect" "Reader.expect" (defArgs (inClass (topS 38) 2)) (defBody (inClass (topS 38) 2)) (defScope (inClass (topS 38) 2)) .none kVxpt dcxpt pmxpt anxpt cdxpt ctxpt), slxpt⟩)
    (cxpt : PySem.W.codeIn K cdxpt "Reader.expect" = true)
    (kxpt : PySem.W.keepIn K (.ref fxpt) = true)
    (mtko : PySem.W.findIn K (.ref CR) "take_operand" = some (some (.ref ftko)))
    (itko : PySem.W.isFn K (.ref ftko) = true)
    (ltko : K.lookup ftko = some ⟨octko, odtko, .func (PySem.W.fnOf "take_operand" "Reader.take_operand" (defArgs (inClass (topS 38) 3)) (defBody (inClass (topS 38) 3)) (defScope (inClass (topS 38) 3)) .none kVtko dctko pmtko antko cdtko cttko), sltko⟩)
    (ctko : PySem.W.codeIn K cdtko "Reader.take_operand" = true)
    (ktko : PySem.W.keepIn K (.ref ftko) = true)
    (mtkl : PySem.W.findIn K (.ref CR) "take_list" = some (some (.ref ftkl)))
    (itkl : PySem.W.isFn K (.ref ftkl) = true)
    (ltkl : K.lookup ftkl = some ⟨octkl, odtkl, .func (PySem.W.fnOf "take_list" "Reader.take_list" (defArgs (inClass (topS 38) 4)) (defBody (inClass (topS 38) 4)) (defScope (inClass (topS 38) 4)) .none kVtkl dctkl pmtkl antkl cdtkl cttkl), sltkl⟩)
    (ctkl : PySem.W.codeIn K cdtkl "Reader.take_list" = true)
    (ktkl : PySem.W.keepIn K (.ref ftkl) = true)
    (mtkc : PySem.W.findIn K (.ref CR) "take_choice" = some (some (.ref ftkc)))
    (itkc : PySem.W.isFn K (.ref ftkc) = true)
    (ltkc : K.lookup ftkc = some ⟨octkc, odtkc, .func (PySem.W.fnOf "take_choice" "Reader.take_choice" (defArgs (inClass (topS 38) 6)) (defBody (inClass (topS 38) 6)) (defScope (inClass (topS 38) 6)) .none kVtkc dctkc pmtkc antkc cdtkc cttkc), sltkc⟩)
    (ctkc : PySem.W.codeIn K cdtkc "Reader.take_choice" = true)
    (ktkc : PySem.W.keepIn K (.ref ftkc) = true)
    (mtkf : PySem.W.findIn K (.ref CR) "take_offer" = some (some (.ref ftkf)))
    (itkf : PySem.W.isFn K (.ref ftkf) = true)
    (ltkf : K.lookup ftkf = some ⟨octkf, odtkf, .func (PySem.W.fnOf "take_offer" "Reader.take_offer" (defArgs (inClass (topS 38) 7)) (defBody (inClass (topS 38) 7)) (defScope (inClass (topS 38) 7)) .none kVtkf dctkf pmtkf antkf cdtkf cttkf), sltkf⟩)
    (ctkf : PySem.W.codeIn K cdtkf "Reader.take_offer" = true)
    (ktkf : PySem.W.keepIn K (.ref ftkf) = true)
    (mtkn : PySem.W.findIn K (.ref CR) "take_new" = some (some (.ref ftkn)))
    (itkn : PySem.W.isFn K (.ref ftkn) = true)
    (ltkn : K.lookup ftkn = some ⟨octkn, odtkn, .func (PySem.W.fnOf "take_new" "Reader.take_new" (defArgs (inClass (topS 38) 8)) (defBody (inClass (topS 38) 8)) (defScope (inClass (topS 38) 8)) .none kVtkn dctkn pmtkn antkn cdtkn cttkn), sltkn⟩)
    (ctkn : PySem.W.codeIn K cdtkn "Reader.take_new" = true)
    (ktkn : PySem.W.keepIn K (.ref ftkn) = true)
    (mtkw : PySem.W.findIn K (.ref CR) "take_when" = some (some (.ref ftkw)))
    (itkw : PySem.W.isFn K (.ref ftkw) = true)
    (ltkw : K.lookup ftkw = some ⟨octkw, odtkw, .func (PySem.W.fnOf "take_when" "Reader.take_when" (defArgs (inClass (topS 38) 9)) (defBody (inClass (topS 38) 9)) (defScope (inClass (topS 38) 9)) .none kVtkw dctkw pmtkw antkw cdtkw cttkw), sltkw⟩)
    (ctkw : PySem.W.codeIn K cdtkw "Reader.take_when" = true)
    (ktkw : PySem.W.keepIn K (.ref ftkw) = true)
    (mtkp : PySem.W.findIn K (.ref CR) "take_process" = some (some (.ref ftkp)))
    (itkp : PySem.W.isFn K (.ref ftkp) = true)
    (ltkp : K.lookup ftkp = some ⟨octkp, odtkp, .func (PySem.W.fnOf "take_process" "Reader.take_process" (defArgs (inClass (topS 38) 5)) (defBody (inClass (topS 38) 5)) (defScope (inClass (topS 38) 5)) (.ref aDtkp) kVtkp dctkp pmtkp antkp cdtkp cttkp), sltkp⟩)
    (ctkp : PySem.W.codeIn K cdtkp "Reader.take_process" = true)
    (ktkp : PySem.W.keepIn K (.ref ftkp) = true)
    (lDtkp : K.lookup aDtkp = some ⟨clDtkp, odDtkp, .seq #[.int iDtkp tDtkp] nDtkp, slDtkp⟩)
    (hDtkp : iDtkp = 1)
    (aCT : PySem.W.nsIn K mainGlobals "Tokens" = some (some (.ref CT)))
    (rdT : PySem.W.readsIn K CT (.type "type") = true)
    (gaT : PySem.W.specialIn K (.ref CT) "__getattribute__" = some (some (.builtin "type.__getattribute__")))
    (atT : PySem.W.findCls K (.ref CT) (.type "type") "__init__" = some (.val (.ref ftin)))
    (ltin : K.lookup ftin = some ⟨octin, odtin, .func (PySem.W.fnOf "__init__" "Tokens.__init__" (defArgs (inClass (topS 36) 0)) (defBody (inClass (topS 36) 0)) (defScope (inClass (topS 36) 0)) .none kVtin dctin pmtin antin cdtin cttin), sltin⟩)
    (ctin : PySem.W.codeIn K cdtin "Tokens.__init__" = true)
    (ktin : PySem.W.keepIn K (.ref ftin) = true)
    (eRC : (Value.ref CR == Value.ref C) = false)
    (gDg : PySem.W.nsIn K mainGlobals "MOST_DIGITS" = some (some (.int iDg tDg)))
    (hDg : iDg = 30)
    (air : PySem.W.nsIn K mainGlobals "int_read" = some (some (.ref fir)))
    (lir : K.lookup fir = some ⟨ocir, odir, .func (PySem.W.fnOf "int_read" "int_read" (defArgs (topS 15)) (defBody (topS 15)) (defScope (topS 15)) .none kVir dcir pmir anir cdir ctir), slir⟩)
    (cir : PySem.W.codeIn K cdir "int_read" = true)
    (kir : PySem.W.keepIn K (.ref fir) = true)
    (aorr : PySem.W.nsIn K mainGlobals "operand_read" = some (some (.ref forr)))
    (lorr : K.lookup forr = some ⟨ocorr, odorr, .func (PySem.W.fnOf "operand_read" "operand_read" (defArgs (topS 39)) (defBody (topS 39)) (defScope (topS 39)) .none kVorr dcorr pmorr anorr cdorr ctorr), slorr⟩)
    (corr : PySem.W.codeIn K cdorr "operand_read" = true)
    (korr : PySem.W.keepIn K (.ref forr) = true)
    (opF : PySem.W.selfFirst K C = true)
    (z_abs : PySem.W.nsIn K mainGlobals "abs" = some (none))
    (z_range : PySem.W.nsIn K mainGlobals "range" = some (none))
    (z_set : PySem.W.nsIn K mainGlobals "set" = some (none))
    (z_list : PySem.W.nsIn K mainGlobals "list" = some (none)) :
    ∃ fd : FuncData, (∀ (s : Shared) (v : Value), BindsTo s fd ⟨[v], []⟩ [("_law_script", v)]) ∧ ∀ base : Heap, K.In base → base.Ns mainGlobals mg → FnOk P w K mg base CX0 20 fa fd ["_law_script"] (spLaw K) := by
  have e := hfa.symm.trans (PySem.W.mg_of X G alaw)
  cases e
  subst hL hD hN hT hM hDe hSi hOp hOf hDtkp hDg
  have TB : ErrTxt P K mg "BadTerm" CB fB := { gC := PySem.W.mg_of X G aB, cls := ⟨nmB, qB, NB, bsB, _, snB, subB, abB, colB, ddB, m0, m1, m2, m3, m5, xB, rfl⟩, ei := eiB, sa := saB, noN := noB, iC := iB, tC := tB, kC := kB, exC := exB, veC := veB, tyC := tyB, slf := mroB, sup := spB, opq := opq, gs := PySem.W.mg_none_of X G z_super, top := topB, fn := ⟨ocB, odB, anB, kVB, dcB, pmB, ctB, slB, _, cda, cc, ccl, clB, cdd, cld, ccs, csl, vsB, fileB, tfB, zM, b1, b2, q0, r0, r1, r2, r3, r4, r5, r6, r7, r8, lB, cB, oB, vB, fB1, ceB, zMB, lnB⟩ }
  have B : BasT K mg := { letters := ⟨_, PySem.W.mg_of X G gL, _, rfl⟩, digits := ⟨_, PySem.W.mg_of X G gD, _, rfl⟩, nlen := ⟨_, PySem.W.mg_of X G gN, _, rfl⟩, reserved := ⟨aR, PySem.W.mg_of X G gR, fun H => .inr ⟨_, _, _, lR, rfl, rfl, by rw [sizeLine_eq]; omega, hR⟩⟩, toolong := ⟨_, PySem.W.mg_of X G gT, _, rfl⟩, seats := ⟨_, PySem.W.mg_of X G gM, _, rfl⟩, isinst := PySem.W.mg_none_of X G z_isinstance, str := PySem.W.mg_none_of X G z_str, int := PySem.W.mg_none_of X G z_int, bool := PySem.W.mg_none_of X G z_bool, len := PySem.W.mg_none_of X G z_len, all := PySem.W.mg_none_of X G z_all }
  have T : TerT K mg C CB := { cl := ⟨pg, hd, po, sa⟩, nK := n_kind, nP := n_parts, nD := n_depth, nS := n_size, mgC := PySem.W.mg_of X G aC, kStr := kit_no ic ty no_str, kInt := kit_no ic ty no_int, kTup := kit_no ic ty no_tuple, ha := ha, hn := hn, htk := ht, hm := hm, sum := PySem.W.mg_none_of X G z_sum, max := PySem.W.mg_none_of X G z_max, tuple := PySem.W.mg_none_of X G z_tuple, depth := ⟨_, PySem.W.mg_of X G gDe, _, rfl⟩, size := ⟨_, PySem.W.mg_of X G gSi, _, rfl⟩ }
  have Finit := fun_mk (st := (inClass (topS 30) 0)) linit cinit kinit
  have Binit := Finit.binds (ps := ["self", "kind", "parts"]) fun _ _ _ _ _ _ us hl => match us, hl with | [_, _, _], _ => rfl
  have Fisname := fun_mk (st := (topS 9)) lisname cisname kisname
  have Bisname := Fisname.binds (ps := ["text"]) fun _ _ _ _ _ _ us hl => match us, hl with | [_], _ => rfl
  have Fisint := fun_mk (st := (topS 11)) lisint cisint kisint
  have Bisint := Fisint.binds (ps := ["value"]) fun _ _ _ _ _ _ us hl => match us, hl with | [_], _ => rfl
  have Fisshort := fun_mk (st := (topS 12)) lisshort cisshort kisshort
  have Bisshort := Fisshort.binds (ps := ["value"]) fun _ _ _ _ _ _ us hl => match us, hl with | [_], _ => rfl
  have Fisop := fun_mk (st := (topS 13)) lisop cisop kisop
  have Bisop := Fisop.binds (ps := ["part"]) fun _ _ _ _ _ _ us hl => match us, hl with | [_], _ => rfl
  have Fdemand := fun_mk (st := (topS 26)) ldemand cdemand kdemand
  have Bdemand := Fdemand.binds (ps := ["allowed", "field"]) fun _ _ _ _ _ _ us hl => match us, hl with | [_, _], _ => rfl
  have Finner := fun_mk (st := (topS 27)) linner cinner kinner
  have Binner := Finner.binds (ps := ["kind", "parts"]) fun _ _ _ _ _ _ us hl => match us, hl with | [_, _], _ => rfl
  have Fsize := fun_mk (st := (topS 28)) lsize csize ksize
  have Bsize := Fsize.binds (ps := ["kind", "parts"]) fun _ _ _ _ _ _ us hl => match us, hl with | [_, _], _ => rfl
  have Fdepth := fun_mk (st := (topS 29)) ldepth cdepth kdepth
  have Bdepth := Fdepth.binds (ps := ["kind", "parts"]) fun _ _ _ _ _ _ us hl => match us, hl with | [_, _], _ => rfl
  have Fststop := fun_mk (st := (inClass (topS 30) 1)) lststop cststop kststop
  have Bststop := Fststop.binds (ps := []) fun _ _ _ _ _ _ us hl => match us, hl with | [], _ => rfl
  have Fstoffer := fun_mk (st := (inClass (topS 30) 2)) lstoffer cstoffer kstoffer
  have Bstoffer := Fstoffer.binds (ps := ["channel", "seat", "seats", "operand", "names", "rest"]) fun _ _ _ _ _ _ us hl => match us, hl with | [_, _, _, _, _, _], _ => rfl
  have Fstnew := fun_mk (st := (inClass (topS 30) 3)) lstnew cstnew kstnew
  have Bstnew := Fstnew.binds (ps := ["name", "seats", "rest"]) fun _ _ _ _ _ _ us hl => match us, hl with | [_, _, _], _ => rfl
  have Fstwhen := fun_mk (st := (inClass (topS 30) 4)) lstwhen cstwhen kstwhen
  have Bstwhen := Fstwhen.binds (ps := ["left", "right", "yes", "no"]) fun _ _ _ _ _ _ us hl => match us, hl with | [_, _, _, _], _ => rfl
  have Fstcall := fun_mk (st := (inClass (topS 30) 5)) lstcall cstcall kstcall
  have Bstcall := Fstcall.binds (ps := ["name", "operands"]) fun _ _ _ _ _ _ us hl => match us, hl with | [_, _], _ => rfl
  have Fadd := fun_mk (st := (inClass (topS 30) 7)) ladd cadd kadd
  have Badd := Fadd.binds (ps := ["self", "other"]) fun _ _ _ _ _ _ us hl => match us, hl with | [_, _], _ => rfl
  have Fpeq := fun_mk (st := (inClass (topS 30) 6)) lpeq cpeq kpeq
  have Bpeq := Fpeq.binds (ps := ["self", "other"]) fun _ _ _ _ _ _ us hl => match us, hl with | [_, _], _ => rfl
  have Farenames := fun_mk (st := (topS 10)) larenames carenames karenames
  have Barenames := Farenames.binds (ps := ["texts"]) fun _ _ _ _ _ _ us hl => match us, hl with | [_], _ => rfl
  have Fisseats := fun_mk (st := (topS 14)) lisseats cisseats kisseats
  have Bisseats := Fisseats.binds (ps := ["count"]) fun _ _ _ _ _ _ us hl => match us, hl with | [_], _ => rfl
  have Fischoice := fun_mk (st := (topS 32)) lischoice cischoice kischoice
  have Bischoice := Fischoice.binds (ps := ["term"]) fun _ _ _ _ _ _ us hl => match us, hl with | [_], _ => rfl
  have Fcellat := fun_mk (st := (topS 48)) lcellat ccellat kcellat
  have Bcellat := Fcellat.binds (ps := ["_law_script", "_law_k"]) fun _ _ _ _ _ _ us hl => match us, hl with | [_, _], _ => rfl
  have Fmixed := fun_mk (st := (topS 49)) lmixed cmixed kmixed
  have Bmixed := Fmixed.binds (ps := ["_law_cell", "_law_k"]) fun _ _ _ _ _ _ us hl => match us, hl with | [_, _], _ => rfl
  have Frow := fun_mk (st := (topS 50)) lrow crow krow
  have Brow := Frow.binds (ps := ["_law_cell", "_law_many"]) fun _ _ _ _ _ _ us hl => match us, hl with | [_, _], _ => rfl
  have Fword := fun_mk (st := (topS 51)) lword cword kword
  have Bword := Fword.binds (ps := ["_law_draw"]) fun _ _ _ _ _ _ us hl => match us, hl with | [_], _ => rfl
  have Flop := fun_mk (st := (topS 52)) llop clop klop
  have Blop := Flop.binds (ps := ["_law_draw"]) fun _ _ _ _ _ _ us hl => match us, hl with | [_], _ => rfl
  have Floff := fun_mk (st := (topS 53)) lloff cloff kloff
  have Bloff := Floff.binds (ps := ["_law_row_here", "_law_at", "_law_rest"]) fun _ _ _ _ _ _ us hl => match us, hl with | [_, _, _], _ => rfl
  have Fterm := fun_mk (st := (topS 54)) lterm cterm kterm
  have Bterm := Fterm.binds (ps := ["_law_row_here", "_law_node"]) fun _ _ _ _ _ _ us hl => match us, hl with | [_, _], _ => rfl
  have Fmade := fun_mk (st := (topS 55)) lmade cmade kmade
  have Bmade := Fmade.binds (ps := ["_law_term_here"]) fun _ _ _ _ _ _ us hl => match us, hl with | [_], _ => rfl
  have Fltext := fun_mk (st := (topS 60)) lltext cltext kltext
  have Bltext := Fltext.binds (ps := ["_law_process"]) fun _ _ _ _ _ _ us hl => match us, hl with | [_], _ => rfl
  have Fptext := fun_mk (st := (topS 41)) lptext cptext kptext
  have Bptext := Fptext.binds (ps := ["process"]) fun _ _ _ _ _ _ us hl => match us, hl with | [_], _ => rfl
  have Fptoks := fun_mk (st := (topS 42)) lptoks cptoks kptoks
  have Bptoks := Fptoks.binds (ps := ["process"]) fun _ _ _ _ _ _ us hl => match us, hl with | [_], _ => rfl
  have Fctoks := fun_mk (st := (topS 43)) lctoks cctoks kctoks
  have Bctoks := Fctoks.binds (ps := ["offers"]) fun _ _ _ _ _ _ us hl => match us, hl with | [_], _ => rfl
  have Fotoks := fun_mk (st := (topS 44)) lotoks cotoks kotoks
  have Botoks := Fotoks.binds (ps := ["offer"]) fun _ _ _ _ _ _ us hl => match us, hl with | [_], _ => rfl
  have Fbrack := fun_mk (st := (topS 45)) lbrack cbrack kbrack
  have Bbrack := Fbrack.binds (ps := ["operands"]) fun _ _ _ _ _ _ us hl => match us, hl with | [_], _ => rfl
  have Fprd := fun_mk (st := (topS 46)) lprd cprd kprd
  have Bprd := Fprd.binds (ps := ["text"]) fun _ _ _ _ _ _ us hl => match us, hl with | [_], _ => rfl
  have Flike := fun_mk (st := (topS 56)) llike clike klike
  have Blike := Flike.binds (ps := ["_law_found", "_law_due"]) fun _ _ _ _ _ _ us hl => match us, hl with | [_, _], _ => rfl
  have Fwidth := fun_mk (st := (topS 58)) lwidth cwidth kwidth
  have Bwidth := Fwidth.binds (ps := ["_law_term_here"]) fun _ _ _ _ _ _ us hl => match us, hl with | [_], _ => rfl
  have Fsame := fun_mk (st := (topS 57)) lsame csame ksame
  have Bsame := Fsame.binds (ps := ["_law_process", "_law_term_here"]) fun _ _ _ _ _ _ us hl => match us, hl with | [_, _], _ => rfl
  have Fsameo := fun_mk (st := (topS 59)) lsameo csameo ksameo
  have Bsameo := Fsameo.binds (ps := ["_law_offer_here", "_law_due"]) fun _ _ _ _ _ _ us hl => match us, hl with | [_, _], _ => rfl
  have Flaw := fun_mk (st := (topS 61)) llaw claw klaw
  have Blaw := Flaw.binds (ps := ["_law_script"]) fun _ _ _ _ _ _ us hl => match us, hl with | [_], _ => rfl
  have Freq := fun_mk (st := (inClass (topS 36) 2)) lreq creq kreq
  have Breq := Freq.binds (ps := ["self", "allowed"]) fun _ _ _ _ _ _ us hl => match us, hl with | [_, _], _ => rfl
  have Fmore := fun_mk (st := (inClass (topS 36) 3)) lmore cmore kmore
  have Bmore := Fmore.binds (ps := ["self"]) fun _ _ _ _ _ _ us hl => match us, hl with | [_], _ => rfl
  have Ffin := fun_mk (st := (inClass (topS 36) 4)) lfin cfin kfin
  have Bfin := Ffin.binds (ps := ["self"]) fun _ _ _ _ _ _ us hl => match us, hl with | [_], _ => rfl
  have Ftok := fun_mk (st := (inClass (topS 36) 5)) ltok ctok ktok
  have Btok := Ftok.binds (ps := ["self"]) fun _ _ _ _ _ _ us hl => match us, hl with | [_], _ => rfl
  have Ftki := fun_mk (st := (inClass (topS 36) 6)) ltki ctki ktki
  have Btki := Ftki.binds (ps := ["self"]) fun _ _ _ _ _ _ us hl => match us, hl with | [_], _ => rfl
  have Frin := fun_mk (st := (inClass (topS 38) 0)) lrin crin krin
  have Brin := Frin.binds (ps := ["self", "line", "number"]) fun _ _ _ _ _ _ us hl => match us, hl with | [_, _, _], _ => rfl
  have Fxpt := fun_mk (st := (inClass (topS 38) 2)) lxpt cxpt kxpt
  have Bxpt := Fxpt.binds (ps := ["self", "word"]) fun _ _ _ _ _ _ us hl => match us, hl with | [_, _], _ => rfl
  have Ftko := fun_mk (st := (inClass (topS 38) 3)) ltko ctko ktko
  have Btko := Ftko.binds (ps := ["self"]) fun _ _ _ _ _ _ us hl => match us, hl with | [_], _ => rfl
  have Ftkl := fun_mk (st := (inClass (topS 38) 4)) ltkl ctkl ktkl
  have Btkl := Ftkl.binds (ps := ["self"]) fun _ _ _ _ _ _ us hl => match us, hl with | [_], _ => rfl
  have Ftkc := fun_mk (st := (inClass (topS 38) 6)) ltkc ctkc ktkc
  have Btkc := Ftkc.binds (ps := ["self", "level"]) fun _ _ _ _ _ _ us hl => match us, hl with | [_, _], _ => rfl
  have Ftkf := fun_mk (st := (inClass (topS 38) 7)) ltkf ctkf ktkf
  have Btkf := Ftkf.binds (ps := ["self", "level"]) fun _ _ _ _ _ _ us hl => match us, hl with | [_, _], _ => rfl
  have Ftkn := fun_mk (st := (inClass (topS 38) 8)) ltkn ctkn ktkn
  have Btkn := Ftkn.binds (ps := ["self", "level"]) fun _ _ _ _ _ _ us hl => match us, hl with | [_, _], _ => rfl
  have Ftkw := fun_mk (st := (inClass (topS 38) 9)) ltkw ctkw ktkw
  have Btkw := Ftkw.binds (ps := ["self", "level"]) fun _ _ _ _ _ _ us hl => match us, hl with | [_, _], _ => rfl
  have Ftkp : FunD K "take_process" "Reader.take_process" (defArgs (inClass (topS 38) 5)) (defBody (inClass (topS 38) 5)) (defScope (inClass (topS 38) 5)) [.int 1] [] ftkp _ := ⟨⟨octkp, odtkp, .ref aDtkp, kVtkp, dctkp, pmtkp, antkp, cdtkp, cttkp, sltkp, rfl, ltkp, ctkp, .inr ⟨by simp, aDtkp, _, [.int 1 tDtkp], nDtkp, rfl, lDtkp, rfl, .cons ⟨_, rfl⟩ .nil⟩, .inl rfl⟩, ktkp⟩
  have Ftin := fun_mk (st := (inClass (topS 36) 0)) ltin ctin ktin
  have Btin := Ftin.binds (ps := ["self", "line"]) fun _ _ _ _ _ _ us hl => match us, hl with | [_, _], _ => rfl
  have Fir := fun_mk (st := (topS 15)) lir cir kir
  have Bir := Fir.binds (ps := ["token"]) fun _ _ _ _ _ _ us hl => match us, hl with | [_], _ => rfl
  have Forr := fun_mk (st := (topS 39)) lorr corr korr
  have Borr := Forr.binds (ps := ["token"]) fun _ _ _ _ _ _ us hl => match us, hl with | [_], _ => rfl
  refine ⟨PySem.W.fnOf "law" "law" (defArgs (topS 61)) (defBody (topS 61)) (defScope (topS 61)) .none kVlaw dclaw pmlaw anlaw cdlaw ctlaw, fun s v => .of_eq rfl, fun base _ _ => ?_⟩
  have Gisname : CalX P w K mg base CX0 1 "is_name" (spPred nameV) := ⟨_, _, _, ok_is_name Fisname B, PySem.W.mg_of X G aisname, kisname, Bisname⟩
  have Gisint : CalX P w K mg base CX0 1 "is_int" (spPred intV) := ⟨_, _, _, ok_is_int Fisint B, PySem.W.mg_of X G aisint, kisint, Bisint⟩
  have Gisshort : CalX P w K mg base CX0 2 "is_short" (spPred shortV) := ⟨_, _, _, ok_is_short Fisshort B Gisint, PySem.W.mg_of X G aisshort, kisshort, Bisshort⟩
  have Gisop : CalX P w K mg base CX0 3 "is_operand" (spPred operandV) := ⟨_, _, _, ok_is_operand Fisop Gisshort Gisname, PySem.W.mg_of X G aisop, kisop, Bisop⟩
  have Ginner : CalX P w K mg base CX0 1 "inner_processes" (spInner C) := ⟨_, _, _, ok_inner Finner B T, PySem.W.mg_of X G ainner, kinner, Binner⟩
  have Gdepth : CalX P w K mg base CX0 2 "depth_of" (spSize C Pr.depth) := ⟨_, _, _, ok_depth Fdepth T Ginner, PySem.W.mg_of X G adepth, kdepth, Bdepth⟩
  have Gsize : CalX P w K mg base CX0 2 "size_of" (spSize C Pr.size) := ⟨_, _, _, ok_size Fsize B T Ginner, PySem.W.mg_of X G asize, ksize, Bsize⟩
  have OD : FnOk P w K mg base (L2.CX P w) 2 fdemand _ ["allowed", "field"] (spDemand CB) := ok_demand Fdemand (raises_bt (k := 1) (by decide) TB)
  have G2d : CalX P w K mg base (L2.CX P w) 2 "demand" (spDemand CB) := ⟨_, _, _, OD, PySem.W.mg_of X G ademand, kdemand, Bdemand⟩
  have G3d : CalX P w K mg base (L2.CX P w) 3 "demand" (spDemand CB) := ⟨_, _, _, OD.mono (by decide), PySem.W.mg_of X G ademand, kdemand, Bdemand⟩
  have GM : MakX P w K mg base (L2.CX P w) 3 "Process" C (spInit C CB) := ⟨_, _, _, ⟨mk, minit, iinit, kc⟩, ok_init Finit T Gdepth Gsize G2d (Nat.le_refl _), PySem.W.mg_of X G aC, Binit⟩
  have L : LawT K mg := { len := PySem.W.mg_none_of X G z_len, int := PySem.W.mg_none_of X G z_int, abs := PySem.W.mg_none_of X G z_abs, range := PySem.W.mg_none_of X G z_range }
  have Gcellat : CalX P w K mg base CX0 1 "_law_cell_at" (spCellAt K) := ⟨_, _, _, ok_cell_at Fcellat L, PySem.W.mg_of X G acellat, kcellat, Bcellat⟩
  have Gmixed : CalX P w K mg base CX0 1 "_law_mixed" spMixed := ⟨_, _, _, ok_mixed Fmixed L, PySem.W.mg_of X G amixed, kmixed, Bmixed⟩
  have Grow : CalX P w K mg base CX0 2 "_law_row" spRow := ⟨_, _, _, ok_row Frow L Gmixed, PySem.W.mg_of X G arow, krow, Brow⟩
  have Garenames : CalX P w K mg base CX0 2 "are_names" spNames := ⟨_, _, _, ok_are_names Farenames B (PySem.W.mg_none_of X G z_set) Gisname, PySem.W.mg_of X G aarenames, karenames, Barenames⟩
  have Gisseats : CalX P w K mg base CX0 2 "is_seats" (spPred seatsV) := ⟨_, _, _, ok_is_seats Fisseats B Gisint, PySem.W.mg_of X G aisseats, kisseats, Bisseats⟩
  have M : MakT P w K mg base C CB 3 := { make := GM, dem := G3d, name := Gisname, seats := Gisseats, operand := Gisop, int := Gisint, names := Garenames, mops := ⟨_, PySem.W.mg_of X G gOp, _, rfl⟩, tuple := PySem.W.mg_none_of X G z_tuple, len := PySem.W.mg_none_of X G z_len, all := PySem.W.mg_none_of X G z_all, hk := Nat.le_refl _ }
  have Sstop : StaX P w K mg base (L2.CX P w) 5 C "stop" (spStop C CB) := ⟨_, _, _, _, _, ⟨rdC, gaC⟩, ⟨sstop, ⟨_, rstop⟩, kststop⟩, ok_stop Fststop M, Bststop⟩
  have Soffer : StaX P w K mg base (L2.CX P w) 5 C "offer" (spOffer C CB) := ⟨_, _, _, _, _, ⟨rdC, gaC⟩, ⟨soffer, ⟨_, roffer⟩, kstoffer⟩, ok_offer Fstoffer M, Bstoffer⟩
  have Snew : StaX P w K mg base (L2.CX P w) 5 C "new" (spNew C CB) := ⟨_, _, _, _, _, ⟨rdC, gaC⟩, ⟨snew, ⟨_, rnew⟩, kstnew⟩, ok_new Fstnew M, Bstnew⟩
  have Swhen : StaX P w K mg base (L2.CX P w) 5 C "when" (spWhen C CB) := ⟨_, _, _, _, _, ⟨rdC, gaC⟩, ⟨swhen, ⟨_, rwhen⟩, kstwhen⟩, ok_when Fstwhen M, Bstwhen⟩
  have Scall : StaX P w K mg base (L2.CX P w) 5 C "call" (spCall K C CB) := ⟨_, _, _, _, _, ⟨rdC, gaC⟩, ⟨scall, ⟨_, rcall⟩, kstcall⟩, ok_call Fstcall M, Bstcall⟩
  have Gischoice : CalX P w K mg base CX0 1 "is_choice" (spChoice C) := ⟨_, _, _, ok_is_choice Fischoice B T, PySem.W.mg_of X G aischoice, kischoice, Bischoice⟩
  have edu : PySem.dunder Operator.Add.info.2 = "__add__" := by decide +kernel
  have OM : FsR.OpM K C .Add fadd := ⟨opF, by rw [edu]; exact madd, iadd⟩
  have ST : StaT P w K mg base C CB 5 := ⟨PySem.W.mg_of X G aC, Sstop, Snew, Swhen, Scall, Soffer, ⟨_, _, _, OM, ok_add Fadd T M Gischoice ⟨_, PySem.W.mg_of X G gOf, _, rfl⟩, Badd⟩⟩
  have nRC : CR ≠ C := fun z => by rw [z] at eRC; simp at eRC
  have RT : RdT K mg CR := { cl := ⟨pgR, hdR, poR, saR⟩, nT := nR_tokens, nK := nR_taken, nN := nR_number, len := PySem.W.mg_none_of X G z_len }
  have Gir : CalX P w K mg base CX0 1 "int_read" spIr := ⟨_, _, _, ok_ir Fir B ⟨_, PySem.W.mg_of X G gDg, _, rfl⟩, PySem.W.mg_of X G air, kir, Bir⟩
  have Gorr : CalX P w K mg base CX0 2 "operand_read" spOr := ⟨_, _, _, ok_or Forr Gir, PySem.W.mg_of X G aorr, korr, Borr⟩
  have TM : TkM P w K mg base CR := ⟨⟨_, _, ⟨mreq, ireq, kreq⟩, ok_req Freq, Breq⟩, ⟨_, _, ⟨mmore, imore, kmore⟩, ok_more Fmore RT, Bmore⟩⟩
  have Xreq : MthX P w K mg base CR 1 "require" ["self", "allowed"] spReq := ⟨_, _, ⟨mreq, ireq, kreq⟩, ok_req Freq, Breq⟩
  have Xtok : MthX P w K mg base CR 2 "take_token" ["self"] (spTk CR V.str fun _ => True) := ⟨_, _, ⟨mtok, itok, ktok⟩, ok_tk Ftok RT TM, Btok⟩
  have Xfin : MthX P w K mg base CR 2 "finish" ["self"] (spFin CR) := ⟨_, _, ⟨mfin, ifin, kfin⟩, ok_fin Ffin RT TM, Bfin⟩
  have Xtki : MthX P w K mg base CR 3 "take_int" ["self"] (spTk CR irV isI) := ⟨_, _, ⟨mtki, itki, ktki⟩, ok_ti Ftki RT Xreq Xtok Gir, Btki⟩
  have Xxpt : MthX P w K mg base CR 3 "expect" ["self", "word"] (spExp CR) := ⟨_, _, ⟨mxpt, ixpt, kxpt⟩, ok_exp Fxpt RT Xreq Xtok, Bxpt⟩
  have Xtko : MthX P w K mg base CR 3 "take_operand" ["self"] (spTk CR orV shT) := ⟨_, _, ⟨mtko, itko, ktko⟩, ok_to Ftko RT Xtok Gorr, Btko⟩
  have Xtkl : MthX P w K mg base CR 4 "take_list" ["self"] (spLst CR) := ⟨_, _, ⟨mtkl, itkl, ktkl⟩, ok_tl Ftkl RT Xxpt Xtok, Btkl⟩
  have RM : RdM P w K mg base CR := { req := Xreq, tok := Xtok, int := Xtki, exp := Xxpt, opd := Xtko, lst := Xtkl }
  have OTP := ok_tpr nRC Ftkp Ftkf Ftkc Ftkn Ftkw ⟨mtkp, itkp, ktkp⟩ ⟨mtkf, itkf, ktkf⟩ ⟨mtkc, itkc, ktkc⟩ ⟨mtkn, itkn, ktkn⟩ ⟨mtkw, itkw, ktkw⟩ Btkf Btkc Btkn Btkw RT T ST RM Gorr 4
  have MRd : MakX P w K mg base CX0 2 "Reader" CR (spRdI CR) := ⟨_, _, _, ⟨mkR, mrin, irin, kcR⟩, ok_rdi Frin RT (PySem.W.mg_of X G aCT) ⟨rdT, gaT⟩ ⟨atT, ktin⟩ (ok_tk0 Ftin RT) Btin, PySem.W.mg_of X G aCR, Brin⟩
  have Gword : CalX P w K mg base CX0 1 "_law_word" spWordX := ⟨_, _, _, ok_word Fword L, PySem.W.mg_of X G aword, kword, Bword⟩
  have Glop : CalX P w K mg base CX0 2 "_law_operand" spOperand := ⟨_, _, _, ok_loperand Flop L Gword, PySem.W.mg_of X G alop, klop, Blop⟩
  have Gloff : CalX P w K mg base CX0 3 "_law_offer" spLOffer := ⟨_, _, _, ok_loffer Floff L Gword Glop, PySem.W.mg_of X G aloff, kloff, Bloff⟩
  have Gterm : CalX P w K mg base CX0 8 "_law_term" (spTerm 4) := ⟨_, _, _, ok_term Fterm L Gword Glop Gloff (PySem.W.mg_of X G aterm) kterm Bterm 4, PySem.W.mg_of X G aterm, kterm, Bterm⟩
  have Gmade : CalX P w K mg base CX0 10 "_law_made" (spMade C 4) := ⟨_, _, _, ok_made Fmade ST (PySem.W.mg_none_of X G z_list) (PySem.W.mg_of X G amade) kmade Bmade 4, PySem.W.mg_of X G amade, kmade, Bmade⟩
  have Gbrack : CalX P w K mg base CX0 1 "bracketed" spBr := ⟨_, _, _, ok_br Fbrack (PySem.W.mg_none_of X G z_str), PySem.W.mg_of X G abrack, kbrack, Bbrack⟩
  have Gptoks : CalX P w K mg base CX0 13 "process_tokens" (spPT C 4) := ⟨_, _, _, ok_pt Fptoks Fotoks Fctoks T (PySem.W.mg_none_of X G z_str) Gbrack (PySem.W.mg_of X G aptoks) kptoks Bptoks (PySem.W.mg_of X G aotoks) kotoks Botoks (PySem.W.mg_of X G actoks) kctoks Bctoks 4, PySem.W.mg_of X G aptoks, kptoks, Bptoks⟩
  have Gptext : CalX P w K mg base CX0 14 "process_text" (spTX C 4) := ⟨_, _, _, ok_tx Fptext Gptoks, PySem.W.mg_of X G aptext, kptext, Bptext⟩
  have Gltext : CalX P w K mg base CX0 5 "_law_process_text" (spLT 4) := ⟨_, _, _, ok_lt Fltext L (PySem.W.mg_none_of X G z_str) (PySem.W.mg_of X G altext) kltext Bltext 4, PySem.W.mg_of X G altext, kltext, Bltext⟩
  have Gprd : CalX P w K mg base CX0 19 "process_read" (spPRd C 4) := ⟨_, _, _, ok_prd (k := 18) (by decide) Fprd (PySem.W.mg_of X G aB) RT nRC MRd ⟨mtkp, itkp, ktkp⟩ OTP Ftkp Xfin, PySem.W.mg_of X G aprd, kprd, Bprd⟩
  have Glike : CalX P w K mg base CX0 3 "_law_like" (spLk 2) := ⟨_, _, _, ok_lk Flike L B (PySem.W.mg_none_of X G z_list) (PySem.W.mg_none_of X G z_tuple) (PySem.W.mg_of X G alike) klike Blike 2, PySem.W.mg_of X G alike, klike, Blike⟩
  have Gwidth : CalX P w K mg base CX0 1 "_law_width" spWd := ⟨_, _, _, ok_wd Fwidth L, PySem.W.mg_of X G awidth, kwidth, Bwidth⟩
  have Gsame : CalX P w K mg base CX0 12 "_law_same" (spSm C 4) := ⟨_, _, _, ok_sm Fsame Fsameo L B T (PySem.W.mg_none_of X G z_tuple) Glike Gwidth (PySem.W.mg_of X G asame) ksame Bsame (PySem.W.mg_of X G asameo) ksameo Bsameo 4, PySem.W.mg_of X G asame, ksame, Bsame⟩
  have PE := ok_eqB (P := P) (w := w) (base := base) Fpeq (PySem.W.mg_none_of X G z_isinstance) T mpeq ipeq Bpeq 4
  exact ok_law (k := 19) (kp := 19) (by decide) (by decide) Flaw L Gcellat Grow Gterm Gmade Gptext Gltext Gprd Gsame ⟨mpeq, ipeq⟩ PE Bpeq
theorem walk {l : PySem.W.OpenLaw} {q : Program} {loose : List Str} {XP : (Str → Option Value) → Heap → Prop} {YP : World → Heap → Prop} {d : DefRec} {K : Params → PySem.W.Frag} (hn : l.most = some 63) (hdf : d.params.defaults = [])
    (hY : ∀ (w : World) (h : Heap), YP w h → (K w.params).In h)
    (hF : ∀ (w : World) (mg : Str → Option Value) (fa : Addr) (h : Heap), (K w.params).In h → h.Ns mainGlobals mg → mg d.name = some (.ref fa) →
      ∃ fd : FuncData, (∀ (s : Shared) (u : Value), BindsTo s fd ⟨[u], []⟩ [("_law_script", u)]) ∧ ∀ base : Heap, (K w.params).In base → base.Ns mainGlobals mg → FnOk l.prog w (K w.params) mg base CX0 20 fa fd ["_law_script"] (spLaw (K w.params))) :
    PySem.W.WalkO q loose XP YP l.row.toRowW d [] (fun f vs => PySem.call f vs) :=
  L2.walk_of (n := 63) (k := 20) (x := "_law_script") (CX := fun _ => CX0) (sp := fun w => spLaw (K w.params)) hn (by decide) hdf ⟨rfl, by decide, by decide⟩ hY hF (fun _ _ a ns _ _ hS => ⟨a, ns, rfl, hS, fun _ => rfl⟩) fun _ _ _ _ _ z => z
end Fs

open PySem PySem.W PyProof.Rows
set_option Elab.async false
set_option maxRecDepth 100000 in
set_option maxHeartbeats 0 in
theorem PySem.Challenge.cw_fullseats_k16_processes_read_back_holds : PySem.Challenge.rw_fullseats_k16_processes_read_back.Holds := by
  w_on; o_law; k_head; (case hw => w_witness2)
  k_fill
  refine Fs.walk (l := PySem.Challenge.rw_fullseats_k16_processes_read_back) rfl rfl (fun w h Y => PySem.W.kIn_of Y) ?F
  case F =>
    intro w mg fa h KX G hmg
    refine' Fs.all_mk KX G hmg ?aB ?xB ?eiB ?saB ?noB ?iB ?tB ?kB ?exB ?veB ?tyB ?mroB ?spB ?opq ?lB ?cB ?oB ?vB ?fB1 ?ceB ?lnB ?zMB ?topB ?gaB ?ggB ?hdB ?icB ?sbB ?z_super ?gL ?hL ?gD ?hD ?gN ?hN ?gT ?hT ?gM ?hM ?gDe ?hDe ?gSi ?hSi ?gR ?lR ?sR ?hR ?z_isinstance ?z_str ?z_int ?z_bool ?z_len ?z_all ?aC ?pg ?hd ?po ?sa ?n_kind ?n_parts ?n_depth ?n_size ?mk ?kc ?ha ?hn ?ht ?hm ?ic ?ty ?no_str ?no_int ?no_tuple ?z_sum ?z_max ?z_tuple ?minit ?iinit ?linit ?cinit ?kinit ?aisname ?lisname ?cisname ?kisname ?aisint ?lisint ?cisint ?kisint ?aisshort ?lisshort ?cisshort ?kisshort ?aisop ?lisop ?cisop ?kisop ?ademand ?ldemand ?cdemand ?kdemand ?ainner ?linner ?cinner ?kinner ?asize ?lsize ?csize ?ksize ?adepth ?ldepth ?cdepth ?kdepth ?gOp ?hOp ?gOf ?hOf ?rdC ?gaC ?sstop ?rstop ?lststop ?cststop ?kststop ?soffer ?roffer ?lstoffer ?cstoffer ?kstoffer ?snew ?rnew ?lstnew ?cstnew ?kstnew ?swhen ?rwhen ?lstwhen ?cstwhen ?kstwhen ?scall ?rcall ?lstcall ?cstcall ?kstcall ?madd ?iadd ?ladd ?cadd ?kadd ?mpeq ?ipeq ?lpeq ?cpeq ?kpeq ?aarenames ?larenames ?carenames ?karenames ?aisseats ?lisseats ?cisseats ?kisseats ?aischoice ?lischoice ?cischoice ?kischoice ?acellat ?lcellat ?ccellat ?kcellat ?amixed ?lmixed ?cmixed ?kmixed ?arow ?lrow ?crow ?krow ?aword ?lword ?cword ?kword ?alop ?llop ?clop ?klop ?aloff ?lloff ?cloff ?kloff ?aterm ?lterm ?cterm ?kterm ?amade ?lmade ?cmade ?kmade ?altext ?lltext ?cltext ?kltext ?aptext ?lptext ?cptext ?kptext ?aptoks ?lptoks ?cptoks ?kptoks ?actoks ?lctoks ?cctoks ?kctoks ?aotoks ?lotoks ?cotoks ?kotoks ?abrack ?lbrack ?cbrack ?kbrack ?aprd ?lprd ?cprd ?kprd ?alike ?llike ?clike ?klike ?awidth ?lwidth ?cwidth ?kwidth ?asame ?lsame ?csame ?ksame ?asameo ?lsameo ?csameo ?ksameo ?alaw ?llaw ?claw ?klaw ?aCR ?pgR ?hdR ?poR ?saR ?nR_tokens ?nR_taken ?nR_number ?mkR ?kcR ?haR ?hmR ?icR ?tyR ?mreq ?ireq ?lreq ?creq ?kreq ?mmore ?imore ?lmore ?cmore ?kmore ?mfin ?ifin ?lfin ?cfin ?kfin ?mtok ?itok ?ltok ?ctok ?ktok ?mtki ?itki ?ltki ?ctki ?ktki ?mrin ?irin ?lrin ?crin ?krin ?mxpt ?ixpt ?lxpt ?cxpt ?kxpt ?mtko ?itko ?ltko ?ctko ?ktko ?mtkl ?itkl ?ltkl ?ctkl ?ktkl ?mtkc ?itkc ?ltkc ?ctkc ?ktkc ?mtkf ?itkf ?ltkf ?ctkf ?ktkf ?mtkn ?itkn ?ltkn ?ctkn ?ktkn ?mtkw ?itkw ?ltkw ?ctkw ?ktkw ?mtkp ?itkp ?ltkp ?ctkp ?ktkp ?lDtkp ?hDtkp ?aCT ?rdT ?gaT ?atT ?ltin ?ctin ?ktin ?eRC ?gDg ?hDg ?air ?lir ?cir ?kir ?aorr ?lorr ?corr ?korr ?opF ?z_abs ?z_range ?z_set ?z_list
    (case aB => k_is)
    (case xB => k_is)
    (case eiB => kx_is)
    (case saB => k_is)
    (case noB => k_is)
    (case iB => k_is)
    (case tB => k_is)
    (case kB => k_is)
    (case exB => k_is)
    (case veB => k_is)
    (case tyB => k_is)
    (case mroB => k_is)
    (case spB => ks_is)
    (case opq => k_is)
    (case lB => k_is)
    (case cB => k_is)
    (case oB => k_is)
    (case vB => rfl)
    (case fB1 => decide +kernel)
    (case ceB => k_is)
    (case lnB => decide +kernel)
    (case zMB => decide +kernel)
    (case topB => decide +kernel)
    (case gaB => k_is)
    (case ggB => k_is)
    (case hdB => k_is)
    (case icB => k_is)
    (case sbB => first | rfl | k_is)
    (case z_super => k_is)
    (case gL => k_is)
    (case hL => decide +kernel)
    (case gD => k_is)
    (case hD => decide +kernel)
    (case gN => k_is)
    (case hN => decide +kernel)
    (case gT => k_is)
    (case hT => decide +kernel)
    (case gM => k_is)
    (case hM => decide +kernel)
    (case gDe => k_is)
    (case hDe => decide +kernel)
    (case gSi => k_is)
    (case hSi => decide +kernel)
    (case gR => k_is)
    (case lR => k_is)
    (case sR => decide +kernel)
    (case hR => exact .cons ⟨_, rfl⟩ (.cons ⟨_, rfl⟩ (.cons ⟨_, rfl⟩ (.cons ⟨_, rfl⟩ (.cons ⟨_, rfl⟩ (.cons ⟨_, rfl⟩ (.cons ⟨_, rfl⟩ (.cons ⟨_, rfl⟩ (.cons ⟨_, rfl⟩ (.cons ⟨_, rfl⟩ (.cons ⟨_, rfl⟩ .nil)))))))))))
    (case z_isinstance => k_is)
    (case z_str => k_is)
    (case z_int => k_is)
    (case z_bool => k_is)
    (case z_len => k_is)
    (case z_all => k_is)
    (case aC => k_is)
    (case pg => k_is)
    (case hd => k_is)
    (case po => k_is)
    (case sa => k_is)
    (case n_kind => k_is)
    (case n_parts => k_is)
    (case n_depth => k_is)
    (case n_size => k_is)
    (case mk => k_is)
    (case kc => k_is)
    (case ha => k_is)
    (case hn => k_is)
    (case ht => k_is)
    (case hm => k_is)
    (case ic => k_is)
    (case ty => k_is)
    (case no_str => k_is)
    (case no_int => k_is)
    (case no_tuple => k_is)
    (case z_sum => k_is)
    (case z_max => k_is)
    (case z_tuple => k_is)
    (case minit => k_is)
    (case iinit => k_is)
    (case linit => k_is)
    (case cinit => k_is)
    (case kinit => k_is)
    (case aisname => k_is)
    (case lisname => k_is)
    (case cisname => k_is)
    (case kisname => k_is)
    (case aisint => k_is)
    (case lisint => k_is)
    (case cisint => k_is)
    (case kisint => k_is)
    (case aisshort => k_is)
    (case lisshort => k_is)
    (case cisshort => k_is)
    (case kisshort => k_is)
    (case aisop => k_is)
    (case lisop => k_is)
    (case cisop => k_is)
    (case kisop => k_is)
    (case ademand => k_is)
    (case ldemand => k_is)
    (case cdemand => k_is)
    (case kdemand => k_is)
    (case ainner => k_is)
    (case linner => k_is)
    (case cinner => k_is)
    (case kinner => k_is)
    (case asize => k_is)
    (case lsize => k_is)
    (case csize => k_is)
    (case ksize => k_is)
    (case adepth => k_is)
    (case ldepth => k_is)
    (case cdepth => k_is)
    (case kdepth => k_is)
    (case gOp => k_is)
    (case hOp => decide +kernel)
    (case gOf => k_is)
    (case hOf => decide +kernel)
    (case rdC => k_is)
    (case gaC => k_is)
    (case sstop => k_is)
    (case rstop => k_is)
    (case lststop => k_is)
    (case cststop => k_is)
    (case kststop => k_is)
    (case soffer => k_is)
    (case roffer => k_is)
    (case lstoffer => k_is)
    (case cstoffer => k_is)
    (case kstoffer => k_is)
    (case snew => k_is)
    (case rnew => k_is)
    (case lstnew => k_is)
    (case cstnew => k_is)
    (case kstnew => k_is)
    (case swhen => k_is)
    (case rwhen => k_is)
    (case lstwhen => k_is)
    (case cstwhen => k_is)
    (case kstwhen => k_is)
    (case scall => k_is)
    (case rcall => k_is)
    (case lstcall => k_is)
    (case cstcall => k_is)
    (case kstcall => k_is)
    (case madd => k_is)
    (case iadd => k_is)
    (case ladd => k_is)
    (case cadd => k_is)
    (case kadd => k_is)
    (case mpeq => k_is)
    (case ipeq => k_is)
    (case lpeq => k_is)
    (case cpeq => k_is)
    (case kpeq => k_is)
    (case aarenames => k_is)
    (case larenames => k_is)
    (case carenames => k_is)
    (case karenames => k_is)
    (case aisseats => k_is)
    (case lisseats => k_is)
    (case cisseats => k_is)
    (case kisseats => k_is)
    (case aischoice => k_is)
    (case lischoice => k_is)
    (case cischoice => k_is)
    (case kischoice => k_is)
    (case acellat => k_is)
    (case lcellat => k_is)
    (case ccellat => k_is)
    (case kcellat => k_is)
    (case amixed => k_is)
    (case lmixed => k_is)
    (case cmixed => k_is)
    (case kmixed => k_is)
    (case arow => k_is)
    (case lrow => k_is)
    (case crow => k_is)
    (case krow => k_is)
    (case aword => k_is)
    (case lword => k_is)
    (case cword => k_is)
    (case kword => k_is)
    (case alop => k_is)
    (case llop => k_is)
    (case clop => k_is)
    (case klop => k_is)
    (case aloff => k_is)
    (case lloff => k_is)
    (case cloff => k_is)
    (case kloff => k_is)
    (case aterm => k_is)
    (case lterm => k_is)
    (case cterm => k_is)
    (case kterm => k_is)
    (case amade => k_is)
    (case lmade => k_is)
    (case cmade => k_is)
    (case kmade => k_is)
    (case altext => k_is)
    (case lltext => k_is)
    (case cltext => k_is)
    (case kltext => k_is)
    (case aptext => k_is)
    (case lptext => k_is)
    (case cptext => k_is)
    (case kptext => k_is)
    (case aptoks => k_is)
    (case lptoks => k_is)
    (case cptoks => k_is)
    (case kptoks => k_is)
    (case actoks => k_is)
    (case lctoks => k_is)
    (case cctoks => k_is)
    (case kctoks => k_is)
    (case aotoks => k_is)
    (case lotoks => k_is)
    (case cotoks => k_is)
    (case kotoks => k_is)
    (case abrack => k_is)
    (case lbrack => k_is)
    (case cbrack => k_is)
    (case kbrack => k_is)
    (case aprd => k_is)
    (case lprd => k_is)
    (case cprd => k_is)
    (case kprd => k_is)
    (case alike => k_is)
    (case llike => k_is)
    (case clike => k_is)
    (case klike => k_is)
    (case awidth => k_is)
    (case lwidth => k_is)
    (case cwidth => k_is)
    (case kwidth => k_is)
    (case asame => k_is)
    (case lsame => k_is)
    (case csame => k_is)
    (case ksame => k_is)
    (case asameo => k_is)
    (case lsameo => k_is)
    (case csameo => k_is)
    (case ksameo => k_is)
    (case alaw => k_is)
    (case llaw => k_is)
    (case claw => k_is)
    (case klaw => k_is)
    (case aCR => k_is)
    (case pgR => k_is)
    (case hdR => k_is)
    (case poR => k_is)
    (case saR => k_is)
    (case nR_tokens => k_is)
    (case nR_taken => k_is)
    (case nR_number => k_is)
    (case mkR => k_is)
    (case kcR => k_is)
    (case haR => k_is)
    (case hmR => k_is)
    (case icR => k_is)
    (case tyR => k_is)
    (case mreq => k_is)
    (case ireq => k_is)
    (case lreq => k_is)
    (case creq => k_is)
    (case kreq => k_is)
    (case mmore => k_is)
    (case imore => k_is)
    (case lmore => k_is)
    (case cmore => k_is)
    (case kmore => k_is)
    (case mfin => k_is)
    (case ifin => k_is)
    (case lfin => k_is)
    (case cfin => k_is)
    (case kfin => k_is)
    (case mtok => k_is)
    (case itok => k_is)
    (case ltok => k_is)
    (case ctok => k_is)
    (case ktok => k_is)
    (case mtki => k_is)
    (case itki => k_is)
    (case ltki => k_is)
    (case ctki => k_is)
    (case ktki => k_is)
    (case mrin => k_is)
    (case irin => k_is)
    (case lrin => k_is)
    (case crin => k_is)
    (case krin => k_is)
    (case mxpt => k_is)
    (case ixpt => k_is)
    (case lxpt => k_is)
    (case cxpt => k_is)
    (case kxpt => k_is)
    (case mtko => k_is)
    (case itko => k_is)
    (case ltko => k_is)
    (case ctko => k_is)
    (case ktko => k_is)
    (case mtkl => k_is)
    (case itkl => k_is)
    (case ltkl => k_is)
    (case ctkl => k_is)
    (case ktkl => k_is)
    (case mtkc => k_is)
    (case itkc => k_is)
    (case ltkc => k_is)
    (case ctkc => k_is)
    (case ktkc => k_is)
    (case mtkf => k_is)
    (case itkf => k_is)
    (case ltkf => k_is)
    (case ctkf => k_is)
    (case ktkf => k_is)
    (case mtkn => k_is)
    (case itkn => k_is)
    (case ltkn => k_is)
    (case ctkn => k_is)
    (case ktkn => k_is)
    (case mtkw => k_is)
    (case itkw => k_is)
    (case ltkw => k_is)
    (case ctkw => k_is)
    (case ktkw => k_is)
    (case mtkp => k_is)
    (case itkp => k_is)
    (case ltkp => k_is)
    (case ctkp => k_is)
    (case ktkp => k_is)
    (case lDtkp => k_is)
    (case hDtkp => decide +kernel)
    (case aCT => k_is)
    (case rdT => k_is)
    (case gaT => k_is)
    (case atT => k_is)
    (case ltin => k_is)
    (case ctin => k_is)
    (case ktin => k_is)
    (case eRC => decide +kernel)
    (case gDg => k_is)
    (case hDg => decide +kernel)
    (case air => k_is)
    (case lir => k_is)
    (case cir => k_is)
    (case kir => k_is)
    (case aorr => k_is)
    (case lorr => k_is)
    (case corr => k_is)
    (case korr => k_is)
    (case opF => k_is)
    (case z_abs => k_is)
    (case z_range => k_is)
    (case z_set => k_is)
    (case z_list => k_is)

